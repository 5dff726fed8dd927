"""Ends of endless runs [9], [46]."""

from oldletters.codes import steps_of
from oldletters.knots import KnotMap
from oldletters.nets import shown_lots
from oldletters.pieces import edges_of, is_piece
from oldletters.tables import stays_in


def are_pieces(net, box):
    """Tell whether each entry of the box is one piece by the lots shown in it."""
    lots = shown_lots(net, box)
    return all([is_piece(net, worker, entry, lots) for worker, entry in enumerate(box)])


def is_end_by(knots, box, road):
    """Tell whether the box is an end on such a road; knots is the KnotMap of the net."""
    net = knots.whole
    if knots.fitting(box) is None or not are_pieces(net, box):
        return False
    return road == "lossy" or stays_in(net, box)


def is_end(net, box, road):
    """Tell whether the box is the end of an endless run on such a road."""
    return is_end_by(KnotMap(net), box, road)


def knot_for(net, box):
    """Return the least knot that can be and that the box fits, or None."""
    return KnotMap(net).fitting(box)


def why_not(net, box, road):
    """Return None if the box is an end on such a road, otherwise the first reason why not."""
    lots = shown_lots(net, box)
    for worker, entry in enumerate(box):
        pair = parted_pair(edges_of(net, worker, entry, lots))
        if pair is not None:
            return ("piece", worker) + pair
    if road == "just":
        leaving = leaving_step(net, box, lots)
        if leaving is not None:
            return ("leaves",) + leaving
    return ("knot",) if knot_for(net, box) is None else None


def parted_pair(edges):
    """Return the least tuple (one, other) of states such that no way along the edges leads from one to other."""
    for one in edges:
        reached = states_behind(edges, one)
        for other in edges:
            if other not in reached:
                return (one, other)
    return None


def states_behind(edges, start):
    """Return the list of the states to which a way of at least one edge leads from start."""
    reached = set()
    waiting = [start]
    while waiting:
        before = waiting.pop()
        for state in edges[before]:
            if state not in reached:
                reached.add(state)
                waiting.append(state)
    return sorted(reached)


def leaving_step(net, box, lots):
    """Return the first tuple (worker, state, answers) of a step by the lots that leads out of the box, or None."""
    for worker, entry in enumerate(box):
        codes = net[0][worker][2]
        for before in entry:
            for answers, state in steps_of(codes[before], lots):
                if state not in entry:
                    return (worker, before, answers)
    return None
