"""Which rows of letters can be seen of some workers, and what is known behind them [75]."""

from oldletters.codes import results_of
from oldletters.errors import IsSteady, TooMany, Unlike
from oldletters.every import Tour
from oldletters.knots import lots_at, widest_box, with_steady
from oldletters.nets import letters_in, with_member

MOST_PAIRS = 300


class Watch:
    """The situations behind the rows of a net.

    A situation is a tuple (lots, entries): for each watched worker, in order, the letters that it has shown so far,
    and the states where it may be. The others are those that can be at one moment at all that they can ever be while
    the watched ones have shown no more, as at a knot [7] with the watched ones in the place of the steady ones.
    """

    def __init__(self, net, watched):
        for worker in net[1]:
            if worker not in watched:
                raise IsSteady(worker)
        self.whole = (net[0], watched)
        self.steady = net[1]
        self.wide = {}
        self.moves_behind = {}

    def begun(self):
        """Return the situation behind the empty row."""
        lots = tuple([(self.whole[0][worker][1][0],) for worker in self.whole[1]])
        return (lots, tuple([(0,) for _ in lots]))

    def widest_for(self, lots):
        """Return the box of the states where the others may be; what it has for the watched ones is too much."""
        if lots not in self.wide:
            self.wide[lots] = widest_box(self.whole, lots)
        return self.wide[lots]

    def box_at(self, situation):
        """Return the box of the states where each worker may be."""
        lots, entries = situation
        return with_steady(self.whole, self.widest_for(lots), entries)

    def given(self, lots):
        """Return the lots that can have been shown by all."""
        return lots_at(self.whole, lots, self.widest_for(lots))

    def moves(self, situation):
        """Return a dict: for each tuple (worker, letter) that can come next in the row the situation behind it."""
        if situation not in self.moves_behind:
            self.moves_behind[situation] = self.new_moves(situation)
        return self.moves_behind[situation]

    def new_moves(self, situation):
        """Work out what moves returns."""
        lots, entries = situation
        given = self.given(lots)
        found = {}
        for index, worker in enumerate(self.whole[1]):
            _, shown, codes = self.whole[0][worker]
            come = [state for before in entries[index] for state in results_of(codes[before], given)]
            if worker not in self.steady:
                come.append(0)
            for letter in sorted({shown[state] for state in come}):
                states = tuple(sorted({state for state in come if shown[state] == letter}))
                seen = tuple(sorted(set(lots[index] + (letter,))))
                found[(worker, letter)] = (with_member(lots, index, seen), with_member(entries, index, states))
        return found

    def situations(self, row):
        """Return the list of the situations behind the first tuples of a row, none at first, as far as it can be."""
        found = [self.begun()]
        for move in row:
            moves = self.moves(found[-1])
            if move not in moves:
                return found
            found.append(moves[move])
        return found


def first_wrong_at(net, watched, row):
    """Return None if the row is that of some run, otherwise the index of the first tuple with which it is that of
    none; raise IsSteady."""
    many = len(Watch(net, watched).situations(row)) - 1
    return None if many == len(row) else many


def row_can_be(net, watched, row):
    """Tell whether the row is that of some run; raise IsSteady."""
    return first_wrong_at(net, watched, row) is None


def run_with_row(net, watched, row):
    """Return the list of the deeds of a run with this row, or None; raise IsSteady."""
    watch = Watch(net, watched)
    situations = watch.situations(row)
    if len(situations) <= len(row):
        return None
    others = [worker for worker in range(len(net[0])) if worker not in watched]
    tour = Tour(net)
    for (worker, _), state in zip(row, goals_in(watch, row, situations)):
        tour.explore(others)
        if state is None:
            tour.run.fall(worker)
        else:
            tour.run.go_to(worker, state)
    return tour.run.deeds()


def goals_in(watch, row, situations):
    """Return for each tuple of a row that can be the state to which its worker steps, or None if it falls."""
    watched = watch.whole[1]
    # Back from the last situation: the state where each watched worker has to be, and how it can have come there.
    wanted = [entry[0] for entry in situations[-1][1]]
    goals = []
    for (worker, _), (lots, entries) in reversed(list(zip(row, situations))):
        index = watched.index(worker)
        goal = wanted[index]
        codes = watch.whole[0][worker][2]
        given = watch.given(lots)
        before = [state for state in entries[index] if goal in results_of(codes[state], given)]
        goals.append(goal if before else None)
        wanted[index] = before[0] if before else entries[index][0]
    goals.reverse()
    return goals


def box_behind(net, watched, row):
    """Return the box of the states where each worker can be behind the row, or None if it cannot be; raise
    IsSteady."""
    watch = Watch(net, watched)
    situations = watch.situations(row)
    return watch.box_at(situations[-1]) if len(situations) > len(row) else None


def known_behind(net, watched, row):
    """Return for each worker its state if it can only be one behind the row, or None; None alone if the row cannot
    be; raise IsSteady."""
    box = box_behind(net, watched, row)
    if box is None:
        return None
    return tuple([entry[0] if len(entry) == 1 else None for entry in box])


def parting_row(one, other, watched):
    """Return the shortest row, the least of these, that can be in exactly one of the nets, or None; raise Unlike,
    IsSteady, TooMany."""
    many = letters_in(one[0])
    others = letters_in(other[0])
    if len(many) != len(others) or any([many[worker] != others[worker] for worker in watched]):
        raise Unlike()
    left = Watch(one, watched)
    right = Watch(other, watched)
    first = (left.begun(), right.begun())
    rows = {first: []}
    waiting = [first]
    parting = None
    # All pairs are looked at, also when a row is found: there may be too many of them.
    while waiting:
        pair = waiting.pop(0)
        ones = left.moves(pair[0])
        more = right.moves(pair[1])
        for move in sorted(set(list(ones) + list(more))):
            row = rows[pair] + [move]
            if move not in ones or move not in more:
                parting = row if parting is None else parting
            elif (ones[move], more[move]) not in rows:
                rows[(ones[move], more[move])] = row
                waiting.append((ones[move], more[move]))
        if len(rows) > MOST_PAIRS:
            raise TooMany(MOST_PAIRS)
    return parting
