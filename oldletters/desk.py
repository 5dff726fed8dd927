"""A book that is asked and changed by lines of text [77]."""

from oldletters.book import Book
from oldletters.claims import end_without, widest_ends
from oldletters.errors import NoCommand, NoName, NoText, Nothing, TooMany, Wrong
from oldletters.knots import ever_at
from oldletters.reader import read_claim, read_code, read_net, words_of
from oldletters.texts import show_box, show_claim

# How many arguments the words have that no claim follows.
ARGUMENTS = {"ends": 0, "claims": 0, "undo": 0, "redo": 0, "drop": 1, "show": 3, "code": 2}
DIGITS = "0123456789"
MOST_DIGITS = 9


def index_in(names, name):
    """Return the index of a name; raise NoName if it is none of the names."""
    if name not in names:
        raise NoName(name)
    return names.index(name)


def kept_index(word, many):
    """Return the index of one of so many kept claims that a word tells; raise NoName."""
    is_number = len(word) <= MOST_DIGITS and all([sign in DIGITS for sign in word]) and (word[0] != "0" or word == "0")
    if not is_number or int(word) >= many:
        raise NoName(word)
    return int(word)


class Desk:
    """A book of a net that is read from a text, with its names."""

    def __init__(self, text):
        names, net = read_net(text)
        self._names = names
        self._book = Book(net)

    def names(self):
        """Return the names."""
        return self._names

    def net(self):
        """Return the net."""
        return self._book.net()

    def do(self, command):
        """Do what a command says, and return a list of lines; raise Wrong."""
        if not isinstance(command, str):
            raise Wrong(0)
        try:
            return self._answer(command)
        except NoCommand:
            return ["refused NoCommand"]
        except NoName:
            return ["refused NoName"]
        except NoText:
            return ["refused NoText"]
        except TooMany:
            return ["refused TooMany"]
        except Nothing:
            return ["refused Nothing"]

    def _answer(self, command):
        """Return the lines for a command; raise what it is refused for."""
        row, feed, text = command.partition("\n")
        words = words_of(row)
        if not words:
            raise NoCommand()
        word = words[0]
        if word == "sure" or word == "keep":
            claim = read_claim(self._names, command.lstrip(" ")[len(word):])
            return self._sure_lines(claim) if word == "sure" else self._done_lines(self._book.keep(claim))
        if word not in ARGUMENTS or len(words) - 1 != ARGUMENTS[word] or (feed != "" and word != "code"):
            raise NoCommand()
        if word == "ends":
            return self._ends_lines()
        if word == "claims":
            return self._claims_lines()
        return self._done_lines(self._lost_by(word, words[1:], text))

    def _lost_by(self, word, rest, text):
        """Do a deed of the book, undo or redo, and return the indexes of the claims that hold no more."""
        if word == "undo":
            return self._book.undo()
        if word == "redo":
            return self._book.redo()
        if word == "drop":
            return self._book.drop(kept_index(rest[0], len(self._book.claims())))
        workers, letters, states = self._names
        worker = index_in(workers, rest[0])
        state = index_in(states[worker], rest[1])
        if word == "show":
            return self._book.show(worker, state, index_in(letters[worker], rest[2]))
        return self._book.change(worker, state, read_code(self._names, worker, text))

    def _done_lines(self, lost):
        """Return the lines behind a deed by which the claims with these indexes were lost."""
        claims = self._book.claims()
        return ["done"] + [f"lost {show_claim(self._names, claims[index])}" for index in lost]

    def _box_lines(self, word, box):
        """Return a line with a word, and those of a box."""
        return [word] + show_box(self._names, box).split("\n")

    def _ends_lines(self):
        """Return the lines of the widest ends."""
        net = self._book.net()
        lines = []
        for box in widest_ends(net, ever_at(net)):
            lines.extend(self._box_lines("end", box))
        return lines

    def _sure_lines(self, claim):
        """Return the lines that tell whether a claim surely holds."""
        box = end_without(self._book.net(), claim, "lossy")
        return ["yes"] if box is None else self._box_lines("no", box)

    def _claims_lines(self):
        """Return a line for each kept claim."""
        return [("yes " if holds else "no ") + show_claim(self._names, claim)
                for claim, holds in zip(self._book.claims(), self._book.holding())]
