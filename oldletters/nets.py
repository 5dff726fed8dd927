"""What a net consists of, and nets that are made of others [35]."""

from oldletters.codes import asked_by, full_lots, renumbered
from oldletters.errors import IsAsked, IsSteady, Last, NoLetter, NoState, NoWorker
from oldletters.forms import is_index


def check_worker(net, worker):
    """Raise NoWorker if worker, any value, is no index of the net."""
    if not is_index(worker, len(net[0])):
        raise NoWorker(worker)


def check_state(net, worker, state):
    """Raise NoWorker, or NoState if state, any value, is no state of this worker."""
    check_worker(net, worker)
    if not is_index(state, len(net[0][worker][1])):
        raise NoState(state)


def check_no_steady(net):
    """Raise IsSteady with the least steady worker, if there is one."""
    if net[1]:
        raise IsSteady(net[1][0])


def letters_of(net, worker):
    """Return how many letters a worker has; raise NoWorker."""
    check_worker(net, worker)
    return net[0][worker][0]


def states_of(net, worker):
    """Return how many states a worker has; raise NoWorker."""
    check_worker(net, worker)
    return len(net[0][worker][1])


def letter_at(net, worker, state):
    """Return the letter that a worker shows at a state; raise NoWorker, NoState."""
    check_state(net, worker, state)
    return net[0][worker][1][state]


def code_at(net, worker, state):
    """Return the code of a worker at a state; raise NoWorker, NoState."""
    check_state(net, worker, state)
    return net[0][worker][2][state]


def all_states(net):
    """Return the box of all states."""
    return tuple([tuple(range(len(shown))) for _, shown, _ in net[0]])


def letters_in(workers):
    """Return the tuple of the numbers of letters of these workers."""
    return tuple([letters for letters, _, _ in workers])


def all_lots(net):
    """Return the lots of all letters."""
    return full_lots(letters_in(net[0]))


def shown_lots(net, box):
    """Return the lots shown in a box."""
    return tuple([tuple(sorted({shown[state] for state in entry})) for (_, shown, _), entry in zip(net[0], box)])


def lies_in(one, other):
    """Tell whether one box, or one lots, of a net lies in another one."""
    return all([member in wide for entry, wide in zip(one, other) for member in entry])


def size_of(box):
    """Return how many members the entries of a box have together."""
    return sum([len(entry) for entry in box])


def least_of(boxes):
    """Return the ascending list of those of the boxes in which no other one lies, each once."""
    found = []
    for box in sorted(boxes, key=size_of):
        if not any([lies_in(less, box) for less in found]):
            found.append(box)
    return sorted(found)


def greatest_of(boxes):
    """Return the ascending list of those of the boxes that lie in no other one, each once."""
    found = []
    for box in sorted(boxes, key=size_of, reverse=True):
        if not any([lies_in(box, more) for more in found]):
            found.append(box)
    return sorted(found)


def with_member(members, index, member):
    """Return the tuple with another member at an index that it has."""
    return members[:index] + (member,) + members[index + 1:]


def with_worker(net, index, worker):
    """Return the net with another worker at an index that it has."""
    return (with_member(net[0], index, worker), net[1])


def with_code_at(net, worker, state, code):
    """Return the net with another code of a worker at a state; raise NoWorker, NoState."""
    check_state(net, worker, state)
    letters, shown, codes = net[0][worker]
    return with_worker(net, worker, (letters, shown, with_member(codes, state, code)))


def with_letter_at(net, worker, state, letter):
    """Return the net in which a worker shows another letter at a state; raise NoWorker, NoState, NoLetter."""
    check_state(net, worker, state)
    letters, shown, codes = net[0][worker]
    if not is_index(letter, letters):
        raise NoLetter(letter)
    return with_worker(net, worker, (letters, with_member(shown, state, letter), codes))


def asks(worker, asked):
    """Tell whether a worker, a tuple as it stands in a net, asks the one with this index."""
    return any([asked in asked_by(code) for code in worker[2]])


def asking(worker, table):
    """Return the worker that asks table[w] in the place of w."""
    letters, shown, codes = worker
    return (letters, shown, tuple([renumbered(code, table) for code in codes]))


def without_worker(net, worker):
    """Return the net without a worker that no other one asks; raise NoWorker, Last, IsAsked."""
    check_worker(net, worker)
    workers, steady = net
    if len(workers) == 1:
        raise Last()
    for other, row in enumerate(workers):
        if other != worker and asks(row, worker):
            raise IsAsked(other)
    table = tuple([index - 1 if index > worker else index for index in range(len(workers))])
    rest = [asking(row, table) for other, row in enumerate(workers) if other != worker]
    return (tuple(rest), tuple([table[other] for other in steady if other != worker]))


def reordered(net, order):
    """Return the net that has as worker i the worker order[i]."""
    workers, steady = net
    table = tuple([order.index(worker) for worker in range(len(order))])
    moved = tuple([asking(workers[worker], table) for worker in order])
    return (moved, tuple(sorted([table[worker] for worker in steady])))
