"""Ends in which some workers are flaky, stopped or mad [55]."""

from oldletters.choices import all_subsets, least_subsets
from oldletters.claims import claim_holds, end_in
from oldletters.errors import TooMany
from oldletters.nets import check_no_steady, check_worker, lies_in, shown_lots, with_worker
from oldletters.pieces import pieces_of
from oldletters.tables import grown_box, states_from
from oldletters.trees import split_boxes

MOST_ENDS = 400
SORTS = ("flaky", "stopped", "mad")


def maddened(net, mad):
    """Return the net in which each mad worker has, in the place of its states, one for each of its letters.

    So boxes with sorts are boxes of this net.
    """
    for worker in mad:
        letters = net[0][worker][0]
        stays = tuple([("go", letter) for letter in range(letters)])
        net = with_worker(net, worker, (letters, tuple(range(letters)), stays))
    return net


def maddened_claim(net, mad, claim):
    """Return the claim in which an "again" of a mad worker has the letters that its states would show."""
    word = claim[0]
    if word == "not":
        return ("not", maddened_claim(net, mad, claim[1]))
    if word != "again":
        return (word, maddened_claim(net, mad, claim[1]), maddened_claim(net, mad, claim[2]))
    _, worker, states = claim
    if worker not in mad:
        return claim
    return ("again", worker, tuple(sorted({net[0][worker][1][state] for state in states})))


def begun_entry(net, mad, worker):
    """Return the entry from which that of the table with sorts grows."""
    return tuple(range(net[0][worker][0])) if worker in mad else (0,)


def table_with(net, sorts):
    """Return the table with sorts; raise IsSteady."""
    check_no_steady(net)
    mad = sorts[2]
    begun = tuple([begun_entry(net, mad, worker) for worker in range(len(net[0]))])
    other = maddened(net, mad)
    return grown_box(other, begun, shown_lots(other, begun), lambda worker, state: True)


def shown_with(net, sorts, box):
    """Return the lots shown in a box with sorts; raise IsSteady."""
    check_no_steady(net)
    return shown_lots(maddened(net, sorts[2]), box)


def parts_with(net, sorts, worker, entry, lots):
    """Return the greatest parts of an entry that can be those of an end with sorts in which these lots are shown.

    net is maddened already.
    """
    flaky, stopped, mad = sorts
    if worker in mad:
        return [entry]
    if worker in stopped:
        return [(state,) for state in entry]
    if worker in flaky:
        if 0 not in entry:
            return []
        return [states_from(net, worker, (0,), lots, lambda one, state: state in entry)]
    return pieces_of(net, worker, entry, lots)


def is_end_with(net, sorts, box):
    """Tell whether the box with sorts is an end with sorts; raise IsSteady."""
    table = table_with(net, sorts)
    other = maddened(net, sorts[2])
    lots = shown_lots(other, box)
    return lies_in(box, table) and all([parts_with(other, sorts, worker, entry, lots) == [entry]
                                        for worker, entry in enumerate(box)])


def widest_with(net, sorts, box, most):
    """Return the ascending list of the ends with sorts that lie in a box of the table, but in no other such end.

    If most is not None, no more than most + 1 of them.
    """
    other = maddened(net, sorts[2])
    return sorted(split_boxes(other, box, lambda worker, entry, lots: parts_with(other, sorts, worker, entry, lots),
                              most))


def ends_with(net, sorts):
    """Return the ascending list of the greatest ends with sorts; raise IsSteady, TooMany."""
    ends = widest_with(net, sorts, table_with(net, sorts), MOST_ENDS)
    if len(ends) > MOST_ENDS:
        raise TooMany(MOST_ENDS)
    return ends


def holds_with(net, sorts, claim, box):
    """Tell whether the claim holds in an end with sorts; raise IsSteady."""
    check_no_steady(net)
    return claim_holds(maddened_claim(net, sorts[2], claim), box)


def counter_with(net, sorts, claim):
    """Return an end with sorts in which the claim does not hold, or None; raise IsSteady."""
    table = table_with(net, sorts)
    counter = ("not", maddened_claim(net, sorts[2], claim))
    return end_in(table, counter, lambda box: widest_with(net, sorts, box, None))


def sorts_of(sort, workers):
    """Return the sorts in which these workers are of one sort, and all others plain."""
    return tuple([workers if word == sort else () for word in SORTS])


def spoils(net, claim, sort, workers):
    """Tell whether these workers spoil the claim by this sort; raise IsSteady."""
    return counter_with(net, sorts_of(sort, workers), claim) is not None


def bears(net, claim, sort, many):
    """Tell whether no tuple of at most many workers spoils the claim by this sort; raise IsSteady."""
    check_no_steady(net)
    return not any([spoils(net, claim, sort, workers) for workers in all_subsets(list(range(len(net[0]))))
                    if len(workers) <= many])


def least_spoilers(net, claim, sort):
    """Return the ascending list of the least tuples of workers that spoil the claim by this sort; raise IsSteady."""
    check_no_steady(net)
    return least_subsets(list(range(len(net[0]))), lambda workers: spoils(net, claim, sort, workers))


def touched_by(net, sort, worker):
    """Return the ascending tuple of the other workers with other entries in the greatest ends if worker is of this
    sort; raise IsSteady, NoWorker."""
    check_no_steady(net)
    check_worker(net, worker)
    plain = entries_with(net, ((), (), ()))
    touched = entries_with(net, sorts_of(sort, (worker,)))
    return tuple([other for other in range(len(net[0])) if other != worker and plain[other] != touched[other]])


def entries_with(net, sorts):
    """Return for each worker the ascending list of its entries in the greatest ends with sorts, each once."""
    ends = widest_with(net, sorts, table_with(net, sorts), None)
    return [sorted({end[worker] for end in ends}) for worker in range(len(net[0]))]
