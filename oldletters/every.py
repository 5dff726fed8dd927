"""Runs in which the workers of a net come to all their states [41]."""

from oldletters.codes import results_of
from oldletters.errors import NoWay
from oldletters.nets import check_no_steady
from oldletters.runs import Run


class Tour:
    """A run that is being made, and for each worker a way to each state where it has been.

    A way is a tuple of states, the first one 0, the last one the state; to each other one leads a step from the one
    before it, by letters that have been shown.
    """

    def __init__(self, net):
        self.run = Run(net)
        self.ways = [{0: (0,)} for _ in net[0]]

    def visit(self, worker, state):
        """Bring a worker that is not steady to a state where it has been."""
        way = self.ways[worker][state]
        here = self.run.at()[worker]
        if here not in way:
            self.run.fall(worker)
            here = 0
        for further in way[way.index(here) + 1:]:
            self.run.go_to(worker, further)

    def gather(self, workers, vector):
        """Bring these workers, none of them steady, to their states of a vector."""
        for worker in workers:
            self.visit(worker, vector[worker])

    def explore(self, workers):
        """Bring these workers, none of them steady, to all states to which steps of theirs alone can lead."""
        further = self.further(workers)
        while further:
            for worker, before, state in further:
                ways = self.ways[worker]
                if state not in ways:
                    self.visit(worker, before)
                    self.run.go_to(worker, state)
                    ways[state] = ways[before] + (state,)
            further = self.further(workers)

    def further(self, workers):
        """Return tuples (worker, before, state) for the steps of these workers to states where they have not been."""
        lots = self.run.lots()
        workers_of_net = self.run.net()[0]
        return [(worker, before, state) for worker in workers for before in self.ways[worker]
                for state in results_of(workers_of_net[worker][2][before], lots) if state not in self.ways[worker]]


def full_tour(net):
    """Return the tour in which each worker has been at all its states of the table; raise IsSteady."""
    check_no_steady(net)
    tour = Tour(net)
    tour.explore(list(range(len(net[0]))))
    return tour


def run_for_all(net):
    """Return a run in which each worker is at each of its states of the table; raise IsSteady."""
    return full_tour(net).run.deeds()


def run_through(net, vectors):
    """Return a run, and for each of the vectors in order a moment at which the workers are there; raise IsSteady,
    NoWay."""
    tour = full_tour(net)
    for vector in vectors:
        if not all([state in ways for state, ways in zip(vector, tour.ways)]):
            raise NoWay(vector)
    moments = []
    for vector in vectors:
        tour.gather(list(range(len(vector))), vector)
        moments.append(tour.run.now())
    return (tour.run.deeds(), moments)


def run_to(net, vector):
    """Return a run behind which the workers are at this vector; raise IsSteady, NoWay."""
    deeds, _ = run_through(net, [vector])
    return deeds
