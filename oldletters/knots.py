"""Knots: where steady workers can be, and what the others can be meanwhile [7], [8], [42]."""

from oldletters.choices import all_choices
from oldletters.codes import results_of
from oldletters.errors import NoKnot, NoWay, TooMany
from oldletters.every import Tour
from oldletters.nets import lies_in, shown_lots, with_member
from oldletters.runs import Run
from oldletters.tables import grown_box

MOST_VECTORS = 1024


class KnotMap:
    """The knots of a net that can be.

    former has for each of them, those with shorter paths first, the one before it on a path with the fewest knots.
    groups has for the lots of each of them the places of the knots with these lots, and wide their widest box.
    """

    def __init__(self, net):
        self.whole = net
        first = first_knot(net)
        self.former = {first: None}
        self.groups = {}
        self.wide = {}
        newest = [first]
        while newest:
            newest = self.behind(newest)

    def behind(self, knots):
        """Note the knots to which steps lead from these, the newest ones, and return the new ones."""
        found = []
        for knot in knots:
            places, lots = knot
            if lots not in self.wide:
                self.wide[lots] = widest_box(self.whole, lots)
                self.groups[lots] = []
            self.groups[lots].append(places)
            for other in knots_behind(self.whole, knot, self.wide[lots]):
                if other not in self.former:
                    self.former[other] = knot
                    found.append(other)
        return found

    def path(self, knot):
        """Return the list of the fewest knots from the first one to this one; raise NoKnot."""
        if knot not in self.former:
            raise NoKnot(knot)
        path = [knot]
        while self.former[path[0]] is not None:
            path.insert(0, self.former[path[0]])
        return path

    def box_at(self, knot):
        """Return the box of a knot that can be."""
        return with_places(self.whole, knot[0], self.wide[knot[1]])

    def boxes(self):
        """Return the list of the boxes of all knots that can be, each once."""
        return sorted({self.box_at(knot) for knot in self.former})

    def ever(self):
        """Return the box of the states at which each worker can ever be."""
        rows = self.boxes()
        entries = [[state for box in rows for state in box[worker]] for worker in range(len(self.whole[0]))]
        return tuple([tuple(sorted(set(entry))) for entry in entries])

    def fitting(self, box):
        """Return the least knot that fits a box as [9] wants it, or None."""
        entries = [box[worker] for worker in self.whole[1]]
        found = []
        for lots in self.groups:
            if lies_in(box, self.wide[lots]):
                found.extend([(places, lots) for places in self.groups[lots] if are_in(places, entries)])
        return min(found) if found else None


def are_in(states, entries):
    """Tell whether each of the states is in its entry."""
    return all([state in entry for state, entry in zip(states, entries)])


def first_knot(net):
    """Return the first knot."""
    workers, steady = net
    return (tuple([0 for _ in steady]), tuple([(workers[worker][1][0],) for worker in steady]))


def with_steady(net, members, rows):
    """Return the tuple with others of its members for the steady workers, in order."""
    for worker, member in zip(net[1], rows):
        members = with_member(members, worker, member)
    return members


def with_places(net, places, box):
    """Return the box with the places of a knot for the steady workers."""
    return with_steady(net, box, [(place,) for place in places])


def lots_at(net, lots, box):
    """Return the lots at knots with these lots, of which box is the widest box."""
    return with_steady(net, shown_lots(net, box), lots)


def widest_box(net, lots):
    """Return the box of a knot with these lots, but with all states that show letters of lots for a steady worker.

    The other entries are the same for all knots with these lots: the others read letters, not places.
    """
    workers, steady = net
    begun = tuple([(0,) for _ in workers])
    entries = [[state for state, letter in enumerate(workers[worker][1]) if letter in letters]
               for worker, letters in zip(steady, lots)]
    begun = with_steady(net, begun, [tuple(entry) for entry in entries])
    given = with_steady(net, shown_lots(net, begun), lots)
    return grown_box(net, begun, given, lambda worker, state: worker not in steady)


def knots_behind(net, knot, box):
    """Return the ascending list of the knots to which a step leads from a knot of which box is the widest box."""
    places, lots = knot
    given = lots_at(net, lots, box)
    found = set()
    for index, worker in enumerate(net[1]):
        _, shown, codes = net[0][worker]
        for state in results_of(codes[places[index]], given):
            letters = tuple(sorted(set(lots[index] + (shown[state],))))
            found.add((with_member(places, index, state), with_member(lots, index, letters)))
    return sorted(found)


def knot_box(net, knot):
    """Return the box of a knot."""
    return with_places(net, knot[0], widest_box(net, knot[1]))


def next_knots(net, knot):
    """Return the ascending list of the knots to which a step of a steady worker leads from this one."""
    return knots_behind(net, knot, widest_box(net, knot[1]))


def knots_of(net):
    """Return the ascending list of all knots that can be."""
    return sorted(KnotMap(net).former)


def knot_path(net, knot):
    """Return a list with the fewest knots from the first one to this one; raise NoKnot."""
    return KnotMap(net).path(knot)


def ever_at(net):
    """Return the box of the states at which each worker can ever be."""
    return KnotMap(net).ever()


def can_be(net, vector):
    """Tell whether the workers can be at these states at one moment."""
    return any([are_in(vector, box) for box in KnotMap(net).boxes()])


def vectors_of(net):
    """Return the ascending list of all vectors that can be at one moment; raise TooMany."""
    found = set()
    for box in KnotMap(net).boxes():
        many = 1
        for entry in box:
            many = many * len(entry)
        if many > MOST_VECTORS:
            raise TooMany(MOST_VECTORS)
        for vector in all_choices(box):
            found.add(vector)
        if len(found) > MOST_VECTORS:
            raise TooMany(MOST_VECTORS)
    return sorted(found)


def free_workers(net):
    """Return the list of the workers that are not steady."""
    return [worker for worker in range(len(net[0])) if worker not in net[1]]


def tour_to(knots, knot):
    """Return the tour to a knot in which each other worker has been at all its states of its box; raise NoKnot."""
    net = knots.whole
    path = knots.path(knot)
    tour = Tour(net)
    tour.explore(free_workers(net))
    for one, other in zip(path, path[1:]):
        for worker, before, state in zip(net[1], one[0], other[0]):
            if before != state:
                tour.run.go_to(worker, state)
        tour.explore(free_workers(net))
    return tour


def run_to_knot(net, knot):
    """Return a run to a knot in which each other worker has been at all its states of its box; raise NoKnot."""
    return tour_to(KnotMap(net), knot).run.deeds()


def run_to_vector(net, vector):
    """Return a run behind which the workers are at this vector; raise NoWay."""
    knots = KnotMap(net)
    for knot in knots.former:
        if are_in(vector, knots.box_at(knot)):
            tour = tour_to(knots, knot)
            tour.gather(free_workers(net), vector)
            return tour.run.deeds()
    raise NoWay(vector)


def knots_along(net, deeds):
    """Return the list of the knots at moment 0 and behind each deed of a run."""
    run = Run(net)
    knots = [knot_now(run)]
    for deed in deeds:
        run.do(deed)
        knots.append(knot_now(run))
    return knots


def knot_now(run):
    """Return the knot where the steady workers of a run are."""
    steady = run.net()[1]
    at = run.at()
    lots = run.lots()
    return (tuple([at[worker] for worker in steady]), tuple([lots[worker] for worker in steady]))
