"""One worker for each part with one shown worker, on lossy roads [66]."""

from oldletters.borders import check_few_rows, rows_of
from oldletters.codes import with_states
from oldletters.errors import ManyShown, NoRows
from oldletters.nested import choice_for, rows_fault
from oldletters.nets import with_member
from oldletters.parts import shown_letters


def first_way(choice):
    """Return the way down through a choice by the first entries."""
    way = ()
    while choice[0] == "less":
        worker, letter, choice = choice[2][0]
        way = way + ((worker, letter),)
    return way


def ways_down(choice):
    """Return a tuple (way, letter shown there) for each way down through a choice."""
    if choice[0] == "last":
        return [((), choice[2])]
    return [(((worker, letter),) + way, shown) for worker, letter, below in choice[2]
            for way, shown in ways_down(below)]


def next_way(choice, way, taken):
    """Return the way down behind this one when these letters were taken, one of each foreign worker."""
    if choice[0] == "last":
        return way
    entries = choice[2]
    index = [entry[:2] for entry in entries].index(way[0])
    worker, letter = way[0]
    if taken[worker] != letter:
        return (way[0],) + next_way(entries[index][2], way[1:], taken)
    further = entries[(index + 1) % len(entries)]
    return (further[:2],) + first_way(further[2])


def with_taken(ever, taken):
    """Return ever with the letters that were taken."""
    return tuple([tuple(sorted(set(entry + (letter,)))) for entry, letter in zip(ever, taken)])


class Maker:
    """Makes the worker, state by state.

    A state has a label, and codes go to labels until all states are there: ("begin",), ("gather", ever),
    ("show", ever, index of a letter), ("choose", ever, index of a ring), ("ring", ever, index, index of a state),
    ("base", ever, way).
    """

    def __init__(self, foreign, letters, rows):
        self.foreign = foreign
        self.letters = letters
        self.have = {ever: have[0] for ever, _, have, _ in rows}
        self.common = [letter for letter in range(letters) if all([letter in have for have in self.have.values()])][0]
        self.rings = {ever: [] for ever in self.have}
        for ever, again, _, lots in rows:
            self.rings[ever].extend([(again, lot[0]) for lot in lots])
        self.nested = {ever: choice_for(foreign, letters, rows, ever) for ever in self.have}
        self.states = []

    def made(self):
        """Return the worker."""
        self.put_state(("begin",), self.common, self.taking((), lambda taken: (
            "gather", tuple([(first,) for first in taken]))))
        for ever in self.have:
            self.add_first_states(ever)
            for index in range(len(self.rings[ever])):
                self.add_ring(ever, index)
            for way, letter in ways_down(self.nested[ever]):
                self.put_state(("base", ever, way), letter, self.base_code(ever, way))
        numbers = {label: number for number, (label, _, _) in enumerate(self.states)}
        shown = tuple([letter for _, letter, _ in self.states])
        return (self.letters, shown, tuple([with_states(code, numbers) for _, _, code in self.states]))

    def put_state(self, label, letter, code):
        """Add a state that shows a letter."""
        self.states.append((label, letter, code))

    def taking(self, taken, goal):
        """Return a code that takes a letter of each further foreign worker, and goes to goal(all that are taken)."""
        worker = len(taken)
        if worker == len(self.foreign):
            return ("go", goal(taken))
        return ("get", worker, tuple([self.taking(taken + (letter,), goal)
                                      for letter in range(self.foreign[worker])]))

    def base_at(self, ever):
        """Return the label of the state at which BASE(ever) begins."""
        return ("base", ever, first_way(self.nested[ever]))

    def add_first_states(self, ever):
        """Add GATHER(ever), SHOW(ever) and CHOOSE(ever)."""
        self.put_state(("gather", ever), self.common, self.taking((), lambda taken: (
            ("show", ever, 0) if with_taken(ever, taken) == ever else ("gather", with_taken(ever, taken)))))
        have = self.have[ever]
        # A worker that has shown one letter alone cannot choose by its own letters, but its lots are all alike then.
        many = len(self.rings[ever]) if len(have) > 1 else 0
        behind = [("show", ever, index) for index in range(1, len(have))]
        behind.append(("choose", ever, 0) if many > 0 else self.base_at(ever))
        for index, (letter, goal) in enumerate(zip(have, behind)):
            self.put_state(("show", ever, index), letter, ("go", goal))
        for index in range(many):
            further = ("choose", ever, index + 1) if index + 1 < many else self.base_at(ever)
            goals = [("ring", ever, index, 0) if letter == have[0] else further for letter in range(self.letters)]
            self.put_state(("choose", ever, index), self.common, (
                "get", len(self.foreign), tuple([("go", goal) for goal in goals])))

    def add_ring(self, ever, index):
        """Add a ring of ever."""
        again, lot = self.rings[ever][index]
        wanted = [(worker, letter) for worker, entry in enumerate(again) for letter in entry]
        size = max(len(lot), len(wanted))
        for state in range(size):
            further = ("ring", ever, index, (state + 1) % size)
            code = self.ring_code(ever, wanted[state % len(wanted)], further) if wanted else ("go", further)
            self.put_state(("ring", ever, index, state), lot[state % len(lot)], code)

    def ring_code(self, ever, wanted, further):
        """Return the code that goes to further by the wanted letter of a foreign worker, a tuple of both."""
        worker, letter = wanted
        goals = []
        for other in range(self.foreign[worker]):
            wider = with_member(ever, worker, tuple(sorted(set(ever[worker] + (other,)))))
            goals.append(further if other == letter else self.base_at(wider))
        return ("get", worker, tuple([("go", goal) for goal in goals]))

    def base_code(self, ever, way):
        """Return the code of the state of BASE(ever) at a way down."""
        return self.taking((), lambda taken: self.base_behind(ever, way, taken))

    def base_behind(self, ever, way, taken):
        """Return the label of the state behind that of BASE(ever) at a way down when these letters were taken."""
        wider = with_taken(ever, taken)
        if wider != ever:
            return self.base_at(wider)
        return ("base", ever, next_way(self.nested[ever], way, taken))


def one_worker(foreign, letters, rows):
    """Return a part of one own worker, which shows so many letters and has just these rows on lossy roads; raise
    NoRows."""
    fault = rows_fault(foreign, letters, rows)
    if fault is not None:
        raise NoRows(fault)
    return (foreign, (Maker(foreign, letters, rows).made(),), (0,))


def one_for(part):
    """Return a part of one own worker that is alike on lossy roads; raise TooMany, ManyShown."""
    foreign, _, shown = part
    check_few_rows(foreign)
    if len(shown) > 1:
        raise ManyShown(len(shown))
    return one_worker(foreign, shown_letters(part)[0], rows_of(part, "lossy"))
