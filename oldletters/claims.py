"""Claims on what is so again and again [51]."""

from oldletters.just import just_ends
from oldletters.knots import KnotMap, are_in
from oldletters.nets import greatest_of, with_member
from oldletters.trees import held_up_within


def claim_holds(claim, box):
    """Tell whether the claim holds at the box."""
    word = claim[0]
    if word == "again":
        return any([state in box[claim[1]] for state in claim[2]])
    if word == "not":
        return not claim_holds(claim[1], box)
    one = claim_holds(claim[1], box)
    other = claim_holds(claim[2], box)
    return (one and other) if word == "and" else (one or other)


def common_box(one, other):
    """Return the tuple of the states that are in both boxes, for each worker; perhaps none."""
    return tuple([tuple([state for state in entry if state in further]) for entry, further in zip(one, other)])


def widest_by(knots, box):
    """Return the ascending list of the widest ends in a box; knots is the KnotMap of the net.

    With all knots of the same lots boxes may have the same states; only one must be at a place of a knot.
    """
    net = knots.whole
    found = []
    for lots in knots.groups:
        inner = common_box(box, knots.wide[lots])
        if () not in inner:
            found.extend([end for end in held_up_within(net, inner) if has_places(net, end, knots.groups[lots])])
    return greatest_of(found)


def has_places(net, box, rows):
    """Tell whether in one of the rows of places the steady workers are all at states of the box."""
    entries = [box[worker] for worker in net[1]]
    return any([are_in(places, entries) for places in rows])


def widest_ends(net, box):
    """Return the ascending list of the ends on lossy roads that lie in the box, but in no other such end."""
    return widest_by(KnotMap(net), box)


def ways_to_be(claim, truth):
    """Return a list of ways in which the claim may hold, or not hold if truth is False.

    A way is an ascending tuple of "again" claims that do not hold then; others of them have to hold.
    """
    word = claim[0]
    if word == "again":
        return [()] if truth else [(claim,)]
    if word == "not":
        return ways_to_be(claim[1], not truth)
    ones = ways_to_be(claim[1], truth)
    others = ways_to_be(claim[2], truth)
    if (word == "and") != truth:
        return sorted(set(ones + others))
    return sorted({tuple(sorted(set(one + other))) for one in ones for other in others})


def without_again(box, claims):
    """Return the box without the states of these "again" claims; entries may be empty."""
    for _, worker, states in claims:
        entry = tuple([state for state in box[worker] if state not in states])
        box = with_member(box, worker, entry)
    return box


def end_in(box, claim, widest_in):
    """Return an end that lies in the box and at which the claim holds, or None.

    widest_in(box) returns the widest ends in a box. What holds at an end holds at each wider one at which no further
    "again" claim holds, so that these are enough.
    """
    for lacking in ways_to_be(claim, True):
        inner = without_again(box, lacking)
        ends = [] if () in inner else [end for end in widest_in(inner) if claim_holds(claim, end)]
        if ends:
            return ends[0]
    return None


def end_with(net, claim, road):
    """Return an end on such a road at which the claim holds, or None; raise TooMany on just roads."""
    if road == "just":
        ends = [end for end in just_ends(net) if claim_holds(claim, end)]
        return ends[0] if ends else None
    return lossy_end_with(KnotMap(net), claim)


def lossy_end_with(knots, claim):
    """Return an end on lossy roads at which the claim holds, or None; knots is the KnotMap of the net."""
    return end_in(knots.ever(), claim, lambda box: widest_by(knots, box))


def end_without(net, claim, road):
    """Return an end on such a road at which the claim does not hold, or None; raise TooMany on just roads."""
    return end_with(net, ("not", claim), road)


def can_hold(net, claim, road):
    """Tell whether the claim holds at some end on such a road; raise TooMany on just roads."""
    return end_with(net, claim, road) is not None


def surely_holds(net, claim, road):
    """Tell whether the claim holds at all ends on such a road; raise TooMany on just roads."""
    return end_without(net, claim, road) is None


def all_holding(net, claims):
    """Return a tuple that tells for each of the claims whether it holds at all ends on lossy roads."""
    if not claims:
        return ()
    knots = KnotMap(net)
    return tuple([lossy_end_with(knots, ("not", claim)) is None for claim in claims])
