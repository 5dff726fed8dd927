"""Rests, and all ends of small nets [52]."""

from oldletters.choices import all_choices, are_more, boxes_in
from oldletters.claims import widest_by
from oldletters.codes import plain_state
from oldletters.ends import is_end_by
from oldletters.errors import TooMany
from oldletters.just import just_ends
from oldletters.knots import KnotMap
from oldletters.nets import least_of, shown_lots, size_of

MOST = 512


def rests_of(net):
    """Return the ascending list of all rests."""
    knots = KnotMap(net)
    ever = knots.ever()
    found = []
    for letters in all_choices(shown_lots(net, ever)):
        rows = [still_states(net, worker, entry, letters) for worker, entry in enumerate(ever)]
        found.extend([vector for vector in all_choices(rows) if knots.fitting(box_of(vector)) is not None])
    return sorted(found)


def still_states(net, worker, entry, letters):
    """Return those of the states at which a worker shows its letter, and stays if all others show theirs."""
    _, shown, codes = net[0][worker]
    return [state for state in entry if shown[state] == letters[worker] and plain_state(codes[state], letters) == state]


def box_of(vector):
    """Return the box of the states of a vector alone."""
    return tuple([(state,) for state in vector])


def surely_rests(net, road):
    """Tell whether each end on such a road is the box of a rest; raise TooMany on just roads."""
    if road == "just":
        ends = just_ends(net)
    else:
        knots = KnotMap(net)
        ends = widest_by(knots, knots.ever())
    return all([size_of(end) == len(end) for end in ends])


def all_ends(net, road):
    """Return the ascending list of all ends on such a road; raise TooMany."""
    knots = KnotMap(net)
    ever = knots.ever()
    if are_more(ever, MOST):
        raise TooMany(MOST)
    return sorted([box for box in boxes_in(ever) if is_end_by(knots, box, road)])


def least_ends(net):
    """Return the ascending list of the ends on lossy roads in which no other one lies; raise TooMany."""
    return least_of(all_ends(net, "lossy"))
