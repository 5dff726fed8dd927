"""What each worker can ever be in a net without steady workers [7], [36]."""

from oldletters.codes import results_of, steps_of
from oldletters.forms import are_integers, is_index, is_integer, is_tuple_of
from oldletters.nets import check_no_steady, check_state, lies_in, shown_lots


def joined_lots(one, other):
    """Return the lots that have the letters of both."""
    return tuple([tuple(sorted(set(entry + further))) for entry, further in zip(one, other)])


def states_from(net, worker, entry, lots, may_come):
    """Return the ascending tuple of the states to which steps by the lots lead from those of the entry.

    A step to a state is left out if may_come(worker, state) does not hold.
    """
    codes = net[0][worker][2]
    found = set(entry)
    waiting = list(entry)
    while waiting:
        before = waiting.pop()
        for state in results_of(codes[before], lots):
            if state not in found and may_come(worker, state):
                found.add(state)
                waiting.append(state)
    return tuple(sorted(found))


def grown_box(net, box, lots, may_come):
    """Return the least box that has the states of box, and each state to which a step leads from a state of it.

    The steps are those by the letters shown in it and those of lots; may_come is as in states_from.
    """
    while True:
        seen = joined_lots(shown_lots(net, box), lots)
        wider = tuple([states_from(net, worker, entry, seen, may_come) for worker, entry in enumerate(box)])
        if wider == box:
            return box
        box = wider


def first_box(net):
    """Return the box of the states at which the workers begin."""
    return tuple([(0,) for _ in net[0]])


def grown_table(net, may_come):
    """Return the box that grows from the states 0; may_come is as in states_from."""
    box = first_box(net)
    return grown_box(net, box, shown_lots(net, box), may_come)


def table_of(net):
    """Return the table of the net; raise IsSteady."""
    check_no_steady(net)
    return grown_table(net, lambda worker, state: True)


def table_from(net, box, lots):
    """Return the least box with 0, the states of box, and those that steps by its letters and by lots lead to."""
    begun = tuple([tuple(sorted(set(entry + (0,)))) for entry in box])
    return grown_box(net, begun, lots, lambda worker, state: True)


def stays_in(net, box):
    """Tell whether no step from a state of the box, by the lots shown in it, leads out of it."""
    lots = shown_lots(net, box)
    results = [[state for before in entry for state in results_of(codes[before], lots)]
               for entry, (_, _, codes) in zip(box, net[0])]
    return lies_in(results, box)


def is_closed(net, box):
    """Tell whether each entry of the box has 0, and no step by the lots shown in it leads out of it."""
    return all([0 in entry for entry in box]) and stays_in(net, box)


def growth_of(net):
    """Return rows that build the table up; raise IsSteady."""
    check_no_steady(net)
    rows = [(worker, 0, None, ()) for worker in range(len(net[0]))]
    while True:
        box = [[state for other, state, _, _ in rows if other == one] for one in range(len(net[0]))]
        lots = shown_lots(net, box)
        further = []
        for worker, entry in enumerate(box):
            further.extend(further_rows(net, worker, entry, lots))
        if not further:
            return rows
        rows = rows + further


def further_rows(net, worker, entry, lots):
    """Return the rows for the states to which steps by the lots lead from those of the entry."""
    codes = net[0][worker][2]
    found = set(entry)
    waiting = list(entry)
    rows = []
    while waiting:
        before = waiting.pop()
        for answers, state in steps_of(codes[before], lots):
            if state not in found:
                found.add(state)
                waiting.append(state)
                rows.append((worker, state, before, answers))
    return rows


def is_growth(net, thing):
    """Tell whether thing, any value, is such a list as growth_of returns; raise IsSteady."""
    check_no_steady(net)
    many = len(net[0])
    if not isinstance(thing, list) or not all([is_tuple_of(row, 4) for row in thing]) or len(thing) < many:
        return False
    if not all([is_first_row(row, worker) for worker, row in enumerate(thing[:many])]):
        return False
    box = [[0] for _ in net[0]]
    for row in thing[many:]:
        if not is_further_row(net, box, row):
            return False
        box[row[0]].append(row[1])
    return tuple([tuple(sorted(entry)) for entry in box]) == table_of(net)


def is_first_row(row, wanted):
    """Tell whether a tuple of four is the row with which this worker begins."""
    worker, state, before, answers = row
    begins = is_integer(worker) and worker == wanted and is_integer(state) and state == 0
    return begins and before is None and is_tuple_of(answers, 0)


def is_further_row(net, box, row):
    """Tell whether a tuple of four may stand behind rows that have the states of box."""
    worker, state, before, answers = row
    if not is_index(worker, len(net[0])) or not is_index(state, len(net[0][worker][1])):
        return False
    if state in box[worker] or not is_integer(before) or before not in box[worker] or not are_integers(answers):
        return False
    return state_along(net[0][worker][2][before], answers, shown_lots(net, box)) == state


def state_along(code, answers, lots):
    """Return the state to which the step by the lots with these answers comes, or None if there is none."""
    for letter in answers:
        if code[0] == "go" or letter not in lots[code[1]]:
            return None
        code = code[2][letter]
    return code[1] if code[0] == "go" else None


def way_to_state(net, worker, state):
    """Return the list of tuples (state, answers) of steps that lead from 0 to a state, or None; raise IsSteady,
    NoWorker, NoState."""
    check_no_steady(net)
    check_state(net, worker, state)
    lots = shown_lots(net, table_of(net))
    codes = net[0][worker][2]
    ways = {0: []}
    waiting = [0]
    while waiting:
        before = waiting.pop(0)
        for answers, come in steps_of(codes[before], lots):
            if come not in ways:
                ways[come] = ways[before] + [(before, answers)]
                waiting.append(come)
    return ways.get(state)
