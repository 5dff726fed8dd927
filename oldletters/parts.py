"""Parts of nets, and the surroundings of parts [60]."""

from oldletters.errors import IsAsked, IsSteady, Unlike
from oldletters.nets import asking, asks, letters_in


def shown_letters(part):
    """Return the tuple of the numbers of letters of the shown workers of a part."""
    _, workers, shown = part
    return letters_in([workers[index] for index in shown])


def joined_net(part, around):
    """Return the net of the surroundings and, behind them, the own workers of the part; raise Unlike."""
    foreign, workers, shown = part
    others, steady = around
    if letters_in(others[:len(foreign)]) != foreign:
        raise Unlike()
    first = len(others)
    outer = tuple(range(first)) + tuple([first + index for index in shown])
    inner = tuple(range(len(foreign))) + tuple(range(first, first + len(workers)))
    joined = [asking(worker, outer) for worker in others] + [asking(worker, inner) for worker in workers]
    return (tuple(joined), steady)


def places_in(order, many):
    """Return a tuple with the place in order of each of so many workers; 0 for those that are not in it."""
    return tuple([order.index(worker) if worker in order else 0 for worker in range(many)])


def cut_part(net, some, shown):
    """Return the tuple (part, around, order) of the part that some workers are; raise IsSteady, IsAsked."""
    workers, steady = net
    many = len(workers)
    for worker in some:
        if worker in steady:
            raise IsSteady(worker)
    others = [worker for worker in range(many) if worker not in some]
    hidden = [worker for worker in some if worker not in shown]
    for worker in others:
        if any([asks(workers[worker], one) for one in hidden]):
            raise IsAsked(worker)
    foreign = [worker for worker in others if any([asks(workers[one], worker) for one in some])]
    outer = foreign + [worker for worker in others if worker not in foreign]
    inside = places_in(foreign + list(some), many)
    outside = places_in(outer + list(shown), many)
    own = tuple([asking(workers[worker], inside) for worker in some])
    part = (letters_in([workers[worker] for worker in foreign]), own, tuple([some.index(worker) for worker in shown]))
    around = (tuple([asking(workers[worker], outside) for worker in outer]),
              tuple(sorted([outer.index(worker) for worker in steady])))
    return (part, around, tuple(outer + list(some)))
