"""Sharing in a net: which claims hold when several gets of one worker have one answer [70]."""

from oldletters.choices import all_subsets, has_all, least_subsets
from oldletters.claims import end_without, surely_holds
from oldletters.errors import NoPlace, TooMany
from oldletters.nets import check_no_steady
from oldletters.sharing import repeats_of, shared_code

MOST_REPEATS = 6


def net_repeats(net):
    """Return the ascending list of all repeats of the net; raise IsSteady."""
    check_no_steady(net)
    return [(worker, state, place) for worker, (_, _, codes) in enumerate(net[0])
            for state, code in enumerate(codes) for place in repeats_of(code)]


def shared_net(net, sharing):
    """Return the net in which each code is shared at its places in sharing; raise IsSteady, NoPlace."""
    repeats = net_repeats(net)
    for repeat in sharing:
        if repeat not in repeats:
            raise NoPlace(repeat)
    workers = [(letters, shown, tuple([shared_code(code, places_for(sharing, worker, state))
                                       for state, code in enumerate(codes)]))
               for worker, (letters, shown, codes) in enumerate(net[0])]
    return (tuple(workers), net[1])


def places_for(sharing, worker, state):
    """Return the places in sharing that are those of the code of a worker at a state."""
    return tuple([place for one, at, place in sharing if one == worker and at == state])


def few_repeats(net):
    """Return the repeats of the net; raise IsSteady, TooMany."""
    repeats = net_repeats(net)
    if len(repeats) > MOST_REPEATS:
        raise TooMany(MOST_REPEATS)
    return repeats


def least_cures(net, claim):
    """Return the ascending list of the least sharings with which the claim surely holds on lossy roads; raise
    IsSteady, TooMany."""
    return least_subsets(few_repeats(net), lambda sharing: surely_holds(shared_net(net, sharing), claim, "lossy"))


def greatest_failing(net, claim):
    """Return the ascending list of tuples (sharing, box) of the greatest sharings with which the claim does not surely
    hold on lossy roads, and an end at which it does not; raise IsSteady, TooMany."""
    found = []
    for sharing in reversed(all_subsets(few_repeats(net))):
        # With less shared there are no fewer ends, so that it does not surely hold either.
        if not any([has_all(more, sharing) for more, _ in found]):
            box = end_without(shared_net(net, sharing), claim, "lossy")
            if box is not None:
                found.append((sharing, box))
    return sorted(found)
