"""Pieces: sets of states through which a worker can step again and again [6], [45]."""

from oldletters.codes import results_of, steps_of


def edges_of(net, worker, states, lots):
    """Return a dict: for each of the states the list of those of them to which a step by the lots leads."""
    codes = net[0][worker][2]
    inside = set(states)
    return {before: [state for state in results_of(codes[before], lots) if state in inside] for before in states}


def states_left(edges):
    """Return all states in the order in which a search in depth along the edges is done with them."""
    left = []
    seen = set()
    asked = {state: 0 for state in edges}
    for start in edges:
        path = [] if start in seen else [start]
        seen.add(start)
        while path:
            before = path[-1]
            if asked[before] == len(edges[before]):
                left.append(path.pop())
            else:
                state = edges[before][asked[before]]
                asked[before] += 1
                if state not in seen:
                    seen.add(state)
                    path.append(state)
    return left


def levels_by(edges):
    """Return the list of levels [45] of the states of a dict from edges_of."""
    back = {state: [] for state in edges}
    for before in edges:
        for state in edges[before]:
            back[state].append(before)
    levels = []
    seen = set()
    # Who is left last comes to all that comes to it, so that along the edges turned round a search keeps to a level.
    for start in reversed(states_left(edges)):
        level = []
        waiting = [] if start in seen else [start]
        seen.add(start)
        while waiting:
            state = waiting.pop()
            level.append(state)
            further = [before for before in back[state] if before not in seen]
            for before in further:
                seen.add(before)
            waiting.extend(further)
        if level:
            levels.append(tuple(sorted(level)))
    return levels


def is_round(edges, level):
    """Tell whether a level is one piece: a single state wants a step to itself."""
    return len(level) > 1 or level[0] in edges[level[0]]


def pieces_by(edges):
    """Return the ascending list of the pieces among the levels."""
    return sorted([level for level in levels_by(edges) if is_round(edges, level)])


def is_one_piece(edges):
    """Tell whether all states of the edges together are one piece."""
    levels = levels_by(edges)
    return len(levels) == 1 and is_round(edges, levels[0])


def is_piece(net, worker, states, lots):
    """Tell whether the states are one piece by the lots."""
    return is_one_piece(edges_of(net, worker, states, lots))


def pieces_of(net, worker, states, lots):
    """Return the ascending list of the greatest tuples of some of the states that are one piece by the lots."""
    return pieces_by(edges_of(net, worker, states, lots))


def levels_of(net, worker, states, lots):
    """Return the pieces, and the states in none by themselves, such that no step leads to an earlier one."""
    return levels_by(edges_of(net, worker, states, lots))


def inner_steps(net, worker, states, lots):
    """Return a dict: for each of the states the tuples (answers, state) of its steps by the lots to one of them."""
    codes = net[0][worker][2]
    inside = set(states)
    return {before: [(answers, state) for answers, state in steps_of(codes[before], lots) if state in inside]
            for before in states}


def way_to(steps, start, wanted):
    """Return the fewest steps, at least one, from start to a state of wanted, as tuples (before, answers), and the
    state come to; steps is a dict as from inner_steps, wanted a dict with at least one state that can be come to."""
    ways = {}
    waiting = [(start, [])]
    while waiting:
        before, way = waiting.pop(0)
        for answers, state in steps[before]:
            if state in wanted:
                return way + [(before, answers)], state
            if state not in ways:
                ways[state] = way + [(before, answers)]
                waiting.append((state, ways[state]))
    return [], start


def walk_through(net, worker, states, lots):
    """Return a walk through all of the states and back to the least, or None if they are not one piece."""
    if not is_piece(net, worker, states, lots):
        return None
    steps = inner_steps(net, worker, states, lots)
    here = states[0]
    walk = []
    missing = {state: True for state in states[1:]}
    while missing:
        way, here = way_to(steps, here, missing)
        walk.extend(way)
        missing.pop(here)
    return closed_walk(steps, states[0], here, walk)


def closed_walk(steps, first, here, walk):
    """Return the walk that comes to here, with the way back to the first state behind it."""
    if here == first and walk:
        return walk
    way, _ = way_to(steps, here, {first: True})
    return walk + way


def full_walk(net, worker, states, lots):
    """Return such a walk that has each step, with each of its answers, or None if they are not one piece."""
    if not is_piece(net, worker, states, lots):
        return None
    steps = inner_steps(net, worker, states, lots)
    missing = {state: list(steps[state]) for state in states}
    here = states[0]
    walk = []
    while missing:
        if here not in missing:
            way, here = way_to(steps, here, missing)
            walk.extend(way)
        answers, state = missing[here].pop(0)
        walk.append((here, answers))
        if not missing[here]:
            missing.pop(here)
        here = state
    return closed_walk(steps, states[0], here, walk)
