"""Reads the texts of nets, codes, boxes and claims."""

from oldletters.errors import NoText, Wrong
from oldletters.texts import are_different_names, is_name

MOST_GETS = 6
MOST_WORDS = 60
BINDING = {"(": 0, "or": 1, "and": 2, "not": 3}


def plain_row(row):
    """Return a line of a text without its note and the blanks at its end."""
    return row.partition("#")[0].rstrip(" ")


def words_of(text):
    """Return the words of a text without line feeds."""
    return [word for word in text.split(" ") if word != ""]


class Line:
    """A line that is not skipped: the words before its first colon, and those behind it or None."""

    def __init__(self, number, row):
        heads, colon, tail = row.partition(":")
        self.number = number
        self.indent = len(row) - len(row.lstrip(" "))
        self.heads = words_of(heads)
        self.tail = words_of(tail) if colon == ":" else None


class Lines:
    """The lines of a text that are not skipped, taken one by one."""

    def __init__(self, text):
        rows = [plain_row(row) for row in text.split("\n")]
        self.rest = [Line(number, row) for number, row in enumerate(rows, start=1) if row != ""]
        self.rest.reverse()
        # A lacking line would stand one behind the last one, which is numbered line feeds plus 1.
        self.lacking = len(rows) + 1

    def next_line(self):
        """Return the next line, or None behind the last one."""
        return self.rest[-1] if self.rest else None

    def take(self):
        """Return the next line and go on behind it."""
        if not self.rest:
            raise NoText(self.lacking)
        return self.rest.pop()

    def finish(self):
        """Raise NoText if a line is left."""
        if self.rest:
            raise NoText(self.next_line().number)


class CodeReader:
    """Reads codes of one worker."""

    def __init__(self, lines, names, worker):
        self.lines = lines
        self.all_names = names
        self.worker = worker

    def read(self, line, words, around):
        """Return the code that the words of a line tell, with so many gets around, and the lines beneath."""
        workers, letters, states = self.all_names
        if len(words) != 2:
            raise NoText(line.number)
        word, name = words
        if word == "go" and name in states[self.worker]:
            return ("go", states[self.worker].index(name))
        if word == "get" and name in workers and around < MOST_GETS:
            asked = workers.index(name)
            return ("get", asked, self.read_block(letters[asked], line.indent, around + 1))
        raise NoText(line.number)

    def read_block(self, things, above, around):
        """Return the tuple of the codes of some things, from the block beneath a line with the indent above."""
        codes = {}
        indent = None
        while len(codes) < len(things):
            line = self.lines.take()
            if indent is None and line.indent > above:
                indent = line.indent
            if line.indent != indent or line.tail is None:
                raise NoText(line.number)
            heads = heads_of(line, [thing for thing in things if thing not in codes])
            code = self.read(line, line.tail, around)
            for head in heads:
                codes[head] = code
        return tuple([codes[thing] for thing in things])


def heads_of(line, missing):
    """Return the things that are the heads of a line; missing are those that are not above."""
    if line.heads == ["*"]:
        return missing
    if not are_some_of(line.heads, missing):
        raise NoText(line.number)
    return line.heads


def are_some_of(words, things):
    """Tell whether the words are one or more of the things, all different."""
    return len(words) > 0 and all([word in things for word in words]) and len(set(words)) == len(words)


def read_net(text):
    """Return the tuple (names, net) that the text tells; raise Wrong, NoText."""
    if not isinstance(text, str):
        raise Wrong(0)
    lines = Lines(text)
    rows = read_workers(lines)
    names = (tuple([row[1] for row in rows]), tuple([row[2] for row in rows]), tuple([row[3] for row in rows]))
    codes = read_all_codes(lines, names)
    lines.finish()
    workers = tuple([(len(row[2]), row[4], codes[worker]) for worker, row in enumerate(rows)])
    return (names, (workers, tuple([worker for worker, row in enumerate(rows) if row[0] == "steady"])))


def read_workers(lines):
    """Return a tuple (word, name, letters, states, shown) for each worker that the first lines tell."""
    rows = []
    while not rows or begins_worker(lines.next_line()):
        line = lines.take()
        word, name, letters = head_of_worker(line, [row[1] for row in rows])
        states, shown = read_states(lines, line.indent, letters)
        rows.append((word, name, letters, states, shown))
    return rows


def begins_worker(line):
    """Tell whether a line, or None, tells a worker; other lines are left to who reads the codes."""
    return line is not None and line.heads[:1] in (["worker"], ["steady"])


def head_of_worker(line, above):
    """Return the tuple (word, name, letters) of a line that tells a worker; above are the names so far."""
    good = line.indent == 0 and line.tail is not None and len(line.heads) == 2
    if not good or line.heads[0] not in ("worker", "steady"):
        raise NoText(line.number)
    word, name = line.heads
    if not is_name(name) or name in above or line.tail == [] or not are_different_names(line.tail):
        raise NoText(line.number)
    return (word, name, tuple(line.tail))


def read_states(lines, above, letters):
    """Return the names of the states of a worker and what it shows there, from the block beneath its line."""
    states = []
    shown = []
    indent = None
    while indent is None or has_indent(lines.next_line(), indent):
        line = lines.take()
        if line.indent <= above or line.tail is None or len(line.heads) != 1 or len(line.tail) != 1:
            raise NoText(line.number)
        indent = line.indent
        name = line.heads[0]
        letter = line.tail[0]
        if not is_name(name) or name in states or letter not in letters:
            raise NoText(line.number)
        states.append(name)
        shown.append(letters.index(letter))
    return (tuple(states), tuple(shown))


def has_indent(line, indent):
    """Tell whether a line, or None, stands so deep."""
    return line is not None and line.indent == indent


def read_all_codes(lines, names):
    """Return a dict with the codes of each worker."""
    workers, _, states = names
    codes = {}
    while len(codes) < len(workers):
        line = lines.take()
        if line.indent != 0 or line.tail is not None or len(line.heads) != 2 or line.heads[0] != "code":
            raise NoText(line.number)
        name = line.heads[1]
        if name not in workers or workers.index(name) in codes:
            raise NoText(line.number)
        worker = workers.index(name)
        codes[worker] = CodeReader(lines, names, worker).read_block(states[worker], line.indent, 0)
    return codes


def read_code(names, worker, text):
    """Return the code of this worker that the text tells; raise NoText."""
    lines = Lines(text)
    line = lines.take()
    if line.indent != 0 or line.tail is not None:
        raise NoText(line.number)
    code = CodeReader(lines, names, worker).read(line, line.heads, 0)
    lines.finish()
    return code


def read_box(names, text):
    """Return the box that the text tells; raise NoText."""
    workers, _, states = names
    lines = Lines(text)
    entries = {}
    while len(entries) < len(workers):
        line = lines.take()
        if line.tail is None or not are_some_of(line.heads, workers) or len(line.heads) != 1:
            raise NoText(line.number)
        worker = workers.index(line.heads[0])
        if worker in entries:
            raise NoText(line.number)
        entries[worker] = entry_of(line, states[worker])
    lines.finish()
    return tuple([entries[worker] for worker in range(len(workers))])


def entry_of(line, states):
    """Return the entry that a line of a box tells."""
    if line.tail == ["*"]:
        return tuple(range(len(states)))
    if not are_some_of(line.tail, states):
        raise NoText(line.number)
    return tuple(sorted([states.index(name) for name in line.tail]))


class ClaimStack:
    """A claim that is being read: the claims in it so far, and the words that wait for a claim behind them."""

    def __init__(self):
        self.parts = []
        self.waiting = []

    def combine(self):
        """Make one claim of the last word that waits and the claims that it is for."""
        word = self.waiting.pop()
        other = self.parts.pop()
        if word == "not":
            self.parts.append(("not", other))
        else:
            self.parts.append((word, self.parts.pop(), other))

    def combine_down(self, binding):
        """Combine as long as the last word that waits binds at least so tight."""
        while self.waiting and BINDING[self.waiting[-1]] >= binding:
            self.combine()

    def begin(self, names, word):
        """Take a word where a claim has to begin; return whether one has to begin behind it, or None if it is bad."""
        if word == "not" or word == "(":
            self.waiting.append(word)
            return True
        claim = again_claim(names, word)
        if claim is None:
            return None
        self.parts.append(claim)
        return False

    def go_on(self, word):
        """Take a word behind a claim; return whether one has to begin behind it, or None if it is bad."""
        if word == "and" or word == "or":
            self.combine_down(BINDING[word])
            self.waiting.append(word)
            return True
        if word == ")" and "(" in self.waiting:
            self.combine_down(BINDING["or"])
            self.waiting.pop()
            return False
        return None


def again_claim(names, word):
    """Return the claim that a word WORKER=STATE,..,STATE tells, or None."""
    name, _, rest = word.partition("=")
    if name not in names[0]:
        return None
    worker = names[0].index(name)
    states = rest.split(",")
    if not are_some_of(states, names[2][worker]):
        return None
    return ("again", worker, tuple(sorted([names[2][worker].index(state) for state in states])))


def claim_words(rows):
    """Return a tuple (word, number of its line) for each word of a claim."""
    words = []
    for number, row in enumerate(rows, start=1):
        apart = plain_row(row).replace("(", " ( ").replace(")", " ) ")
        words.extend([(word, number) for word in words_of(apart)])
    return words


def read_claim(names, text):
    """Return the claim that the text tells; raise NoText."""
    rows = text.split("\n")
    stack = ClaimStack()
    begins = True
    for index, (word, number) in enumerate(claim_words(rows)):
        begins = stack.begin(names, word) if begins else stack.go_on(word)
        if begins is None or index >= MOST_WORDS:
            raise NoText(number)
    if begins or "(" in stack.waiting:
        raise NoText(len(rows) + 1)
    stack.combine_down(BINDING["or"])
    return stack.parts[0]
