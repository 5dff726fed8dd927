"""What a change of edition leaves behind for ever [71]."""

from oldletters.codes import steps_of
from oldletters.ends import are_pieces
from oldletters.errors import NoEnd, NoRound, Unlike
from oldletters.forms import are_counts, is_index, is_round_step, is_tuple_of
from oldletters.nets import all_states, check_no_steady, letters_in, lies_in, shown_lots
from oldletters.rounds import end_by_rows, round_rows, round_through
from oldletters.tables import first_box, grown_box, state_along, table_of
from oldletters.trees import greatest_within, held_up_within


def check_editions(elder, newer):
    """Raise IsSteady if a worker is steady, or Unlike if the nets are no editions."""
    check_no_steady(elder)
    check_no_steady(newer)
    if letters_in(elder[0]) != letters_in(newer[0]):
        raise Unlike()


def rolled_boxes(elder, newer):
    """Return the boxes of elder and of newer at whose states workers can ever be in a run that rolls; raise IsSteady,
    Unlike."""
    check_editions(elder, newer)
    one = first_box(elder)
    two = first_box(newer)
    while True:
        wider = grown_box(elder, one, shown_lots(newer, two), lambda worker, state: True)
        further = grown_box(newer, two, shown_lots(elder, wider), lambda worker, state: True)
        if (wider, further) == (one, two):
            return (one, two)
        one = wider
        two = further


def rolled_ends(elder, newer):
    """Return the ascending list of the greatest ends of rolling; raise IsSteady, Unlike."""
    return held_up_within(newer, rolled_boxes(elder, newer)[1])


def not_within(ends, table):
    """Return the list of those of the ends that do not lie in a table."""
    return [end for end in ends if not lies_in(end, table)]


def left_behind(elder, newer):
    """Return the list of the greatest ends of rolling that do not lie in the table of newer; raise IsSteady, Unlike."""
    return not_within(rolled_ends(elder, newer), table_of(newer))


class Roll:
    """A run that rolls: its deeds, where each worker is, of which edition it is, and the letters that it has shown."""

    def __init__(self, elder, newer):
        self.editions = (elder, newer)
        self.way = []
        self.where = [0 for _ in elder[0]]
        self.edition_now = [0 for _ in elder[0]]
        self.seen = [[shown[0]] for _, shown, _ in elder[0]]

    def begin(self, worker, edition):
        """Let a worker fall and begin an edition."""
        self.edition_now[worker] = edition
        self.come(("fall", worker, edition), 0)

    def go(self, worker, answers):
        """Let a worker step by letters that have been shown, and return whether it can."""
        code = self.editions[self.edition_now[worker]][0][worker][2][self.where[worker]]
        state = state_along(code, answers, self.seen)
        if state is None:
            return False
        self.come(("step", worker, answers), state)
        return True

    def come(self, deed, state):
        """Put a deed down by which its worker comes to a state."""
        worker = deed[1]
        self.way.append(deed)
        self.where[worker] = state
        letter = self.editions[self.edition_now[worker]][0][worker][1][state]
        if letter not in self.seen[worker]:
            self.seen[worker].append(letter)

    def begin_and_go(self, worker, edition, rows):
        """Let a worker begin an edition and do the steps with these answers."""
        self.begin(worker, edition)
        for answers in rows:
            self.go(worker, answers)

    def seen_lots(self):
        """Return the lots of the letters shown so far."""
        return tuple([tuple(sorted(letters)) for letters in self.seen])


def explored(roll):
    """Bring all workers to all states of both editions, and return for each tuple (worker, edition, state) the tuple
    of the answers of the steps that lead there from 0."""
    workers = range(len(roll.where))
    for worker in workers:
        roll.begin(worker, 1)
    ways = {(worker, edition, 0): () for worker in workers for edition in (0, 1)}
    many = 0
    while many < len(ways):
        keys = list(ways)
        many = len(keys)
        for key in keys:
            worker, edition, before = key
            for answers, state in steps_of(roll.editions[edition][0][worker][2][before], roll.seen_lots()):
                if (worker, edition, state) not in ways:
                    ways[(worker, edition, state)] = ways[key] + (answers,)
                    roll.begin_and_go(worker, edition, ways[key] + (answers,))
    return ways


def rolled_run(elder, newer, box):
    """Return an endless run that rolls and has this end; raise IsSteady, Unlike, NoEnd."""
    _, two = rolled_boxes(elder, newer)
    if not lies_in(box, two) or not are_pieces(newer, box):
        raise NoEnd(box)
    roll = Roll(elder, newer)
    ways = explored(roll)
    for worker, entry in enumerate(box):
        roll.begin_and_go(worker, 1, ways[(worker, 1, entry[0])])
    return (roll.way, round_through(newer, box, "lossy"))


def is_rolling_deed(net, thing):
    """Tell whether thing, any value, is one deed of the way of a run that rolls."""
    if not is_tuple_of(thing, 3) or not is_index(thing[1], len(net[0])):
        return False
    word, _, rest = thing
    return (word == "step" and are_counts(rest, 0)) or (word == "fall" and is_index(rest, 2))


def is_rolling(net, thing):
    """Tell whether thing, any value, is by form an endless run that rolls to the net."""
    if not is_tuple_of(thing, 2) or not isinstance(thing[0], list) or not isinstance(thing[1], list):
        return False
    way, steps = thing
    return len(steps) > 0 and all([is_rolling_deed(net, deed) for deed in way]) and all(
        [is_round_step(net, step) for step in steps])


def end_of_rolling(elder, newer, thing):
    """Return the end of an endless run that rolls, thing being any value; raise IsSteady, Unlike, NoRound."""
    check_editions(elder, newer)
    if not is_rolling(newer, thing):
        raise NoRound(0)
    way, steps = thing
    roll = Roll(elder, newer)
    for index, (word, worker, rest) in enumerate(way):
        if word == "fall":
            roll.begin(worker, rest)
        elif not roll.go(worker, rest):
            raise NoRound(index)
    if 0 in roll.edition_now:
        raise NoRound(len(way) + len(steps))
    rows = round_rows(newer, roll.where, roll.seen, steps, len(way))
    return end_by_rows(newer, rows, len(way))


def from_anything(net):
    """Return the ascending list of the greatest ends of endless runs that begin at any vector, with any letters shown
    before; raise IsSteady."""
    return greatest_within(net, all_states(net))


def left_from_anything(net):
    """Return the list of these ends that do not lie in the table; raise IsSteady."""
    return not_within(from_anything(net), table_of(net))


def is_healing(net):
    """Tell whether all these ends lie in the table; raise IsSteady."""
    return left_from_anything(net) == []
