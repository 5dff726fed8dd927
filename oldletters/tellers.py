"""Which workers one has to look at to know the greatest end [53]."""

from oldletters.choices import least_subsets
from oldletters.trees import greatest_ends


def parted_by(one, other):
    """Return the ascending list of the workers whose entries of two boxes have no state in common."""
    return [worker for worker, (entry, further) in enumerate(zip(one, other))
            if not any([state in further for state in entry])]


def tellers_of(net):
    """Return the ascending list of the least tuples of workers that part any two greatest ends; raise IsSteady."""
    ends = greatest_ends(net)
    pairs = sorted({tuple(parted_by(one, other)) for one in ends for other in ends if one < other})
    return least_subsets(list(range(len(net[0]))),
                         lambda some: all([any([worker in some for worker in pair]) for pair in pairs]))


def tell_ends(net, seen):
    """Return the ascending list of the greatest ends that have all these states; raise IsSteady."""
    return [end for end in greatest_ends(net) if all([state in end[worker] for worker, state in seen])]
