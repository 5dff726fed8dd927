"""Closed boxes, and the ends on just roads [50]."""

from oldletters.choices import all_choices, are_more, boxes_in
from oldletters.errors import TooMany
from oldletters.knots import KnotMap
from oldletters.nets import all_states, least_of, shown_lots
from oldletters.pieces import edges_of, pieces_by
from oldletters.tables import grown_box, stays_in, table_of

MOST = 512


def is_closed_box(net, box):
    """Tell whether no step from a state of the box, by the lots shown in it, leads out of it."""
    return stays_in(net, box)


def closed_around(net, box):
    """Return the least closed box in which the box lies."""
    return grown_box(net, box, shown_lots(net, box), lambda worker, state: True)


def check_lots(lots):
    """Raise TooMany if too many lots lie in these."""
    if are_more(lots, MOST):
        raise TooMany(MOST)


def just_entries(net, worker, states, lots):
    """Return the list of the pieces among the states of a worker by the lots that show just its letters of lots, and
    that no step by the lots to one of the states leaves."""
    shown = net[0][worker][1]
    edges = edges_of(net, worker, states, lots)
    return [piece for piece in pieces_by(edges)
            if tuple(sorted({shown[state] for state in piece})) == lots[worker]
            and all([state in piece for before in piece for state in edges[before]])]


def just_choices(net, workers, box, lots):
    """Return the list of all tuples with such a piece for each of the workers, among its states of the box."""
    rows = []
    for worker in workers:
        rows.append(just_entries(net, worker, box[worker], lots))
        if not rows[-1]:
            return []
    return all_choices(rows)


def just_ends(net):
    """Return the ascending list of all ends on just roads; raise TooMany."""
    knots = KnotMap(net)
    wide = shown_lots(net, knots.ever())
    check_lots(wide)
    workers = list(range(len(net[0])))
    states = all_states(net)
    found = []
    for lots in boxes_in(wide):
        found.extend([box for box in just_choices(net, workers, states, lots) if knots.fitting(box) is not None])
        if len(found) > MOST:
            raise TooMany(MOST)
    return sorted(found)


def least_closed(net):
    """Return the ascending list of the least closed boxes that lie in the table; raise IsSteady, TooMany."""
    table = table_of(net)
    check_lots(shown_lots(net, table))
    # Each of them is the least closed box around any vector that lies in it.
    vectors = all_choices([[(state,) for state in entry] for entry in table])
    return least_of([closed_around(net, vector) for vector in vectors])
