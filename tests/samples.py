"""Values that several tests use: nets, codes, values of any kind, and values with one part exchanged."""

import copy
import itertools
import random

from oldletters.errors import IsSteady, NoState, Wrong
from oldletters.runs import Run

ROADS = ("lossy", "just")
LOOK = ("get", 1, (("go", 0), ("go", 1)))
LATCH = (2, (0, 1), (LOOK, ("go", 1)))
TURN = (2, (0, 1), (("get", 0, (("go", 1), ("go", 0))), ("get", 0, (("go", 1), ("go", 0)))))
LATCH_NET = ((LATCH, TURN), ())
# It stays at each of its states; nets with it have as many greatest boxes as can be.
STAYS = (1, (0,) * 5, tuple(("go", at) for at in range(5)))
# By letters of worker 0, which is such a one too, it goes to one of its other states, and stays there.
FAN = (4, (0, 1, 2, 3, 0), (("get", 0, tuple(("go", at) for at in range(1, 5))),) + STAYS[2][1:])
# Three workers of unlike sizes, the last one steady; one letter that no state shows, two states with one letter.
THREE_NET = (
    (
        (3, (0, 2), (("get", 2, (("go", 0), ("get", 0, (("go", 1), ("go", 0), ("go", 1))))), ("go", 0))),
        (1, (0, 0, 0), (("go", 1), ("get", 1, (("go", 2),)), ("get", 0, (("go", 0), ("go", 1), ("go", 2))))),
        (2, (1, 0), (("get", 2, (("go", 0), ("go", 1))), ("go", 0))),
    ),
    (2,),
)
SELF_NET = (((2, (1,), (("get", 0, (("go", 0), ("go", 0))),)),), (0,))
BIG_NET = (((7, (6, 5, 4, 3, 2, 1, 0), (("go", 6),) * 7),) * 7, (0, 2, 6))
NETS = [LATCH_NET, THREE_NET, SELF_NET, BIG_NET]


def deep(many, kind):
    """Return a value of one kind so many deep."""
    value = kind()
    for _ in range(many):
        if kind is dict:
            value = {"go": value}
        else:
            value = kind([value])
    return value


def deep_code(many):
    """Return what looks like a code so many deep, but goes to no state at its end."""
    value = ("go", None)
    for _ in range(many):
        value = ("get", 0, (value,))
    return value


def odd_values():
    """Return values of any kind that are no net, code, box, deed and so on."""
    return [
        None, True, False, "", "go", "lossy ", "a b\nc", [], {}, {"go": 0}, {0: ()}, [0], [[]], [()], ((),),
        ("go",), ("get",), ("get", 0), ("get", 0, ()), ("go", True), ("not",), ("and", 0), ("again", 0, ()),
        (True,), (None,), ("step",), ("step", 0), ("fall",), -1, -(10 ** 39), 10 ** 39, (10 ** 39,), (-1,),
        Run(LATCH_NET), (Run(LATCH_NET),), NoState(0), (NoState(0), Wrong(1)), [Run(SELF_NET)],
        deep(20, list), deep(20, tuple), deep(20, dict), deep_code(18), ("go", deep(18, tuple)),
        ("not", deep(18, tuple)), tuple(range(6000)), [0] * 6000, ((0,),) * 2000, "x" * 6000,
    ]


def paths_in(value, path=()):
    """Return the paths of all parts of a value of lists and tuples, its own, (), first."""
    paths = [path]
    if isinstance(value, (list, tuple)):
        for index, part in enumerate(value):
            paths.extend(paths_in(part, path + (index,)))
    return paths


def part_at(value, path):
    """Return the part at a path."""
    for index in path:
        value = value[index]
    return value


def with_part(value, path, part):
    """Return the value with another part at a path."""
    if path == ():
        return part
    parts = list(value)
    parts[path[0]] = with_part(value[path[0]], path[1:], part)
    return type(value)(parts)


def wrong_kinds(part):
    """Return what can nowhere stand in the place of a part."""
    kinds = [None, {}, {0: 0}, Run(SELF_NET), "xx", True, False, -1, deep(15, tuple), deep(15, list)]
    if isinstance(part, list):
        return kinds + [tuple(part), {index: one for index, one in enumerate(part)}]
    if isinstance(part, tuple):
        return kinds + [list(part), {index: one for index, one in enumerate(part)}]
    if isinstance(part, int):
        return kinds + [(part,), [part], str(part), -part - 1]
    if part is None:
        return kinds[1:] + [0, "None", (), (None,)]
    return kinds + [part.upper(), part + " ", part + "\n", part[:-1], (part,), [part], 0]


def doubtful_kinds(part):
    """Return what may be right or wrong in the place of a part."""
    if isinstance(part, (list, tuple)):
        kind = type(part)
        empty = kind()
        return [part[1:], part[:-1], empty, part[::-1], part + part[:1], part + part[-1:], part[:1] + part,
                part + kind([0]), part + kind([()]), kind([part])]
    if isinstance(part, int):
        return [part + 1, part - 1, part + 7, 0, 1, 10 ** 39]
    if part is None:
        return [0, 1, ()]
    return ["go", "get", "not", "and", "or", "again", "step", "fall"]


def exchanged(value, kinds):
    """Return the value with one part, at any depth, exchanged for each of kinds(part)."""
    return [with_part(value, path, other) for path in paths_in(value) for other in kinds(part_at(value, path))]


def random_code(rng, many, states, depth):
    """Return a code for workers with so many letters each."""
    if depth == 0 or rng.random() < 0.2:
        return ("go", rng.randrange(states))
    asked = rng.randrange(len(many))
    return ("get", asked, tuple(random_code(rng, many, states, depth - 1) for _ in range(many[asked])))


def random_net(rng, most_workers=4, most_states=4, most_letters=3, depth=2, steady=False):
    """Return a net of at most this size."""
    many = [rng.randint(1, most_letters) for _ in range(rng.randint(1, most_workers))]
    workers = []
    for letters in many:
        states = rng.randint(1, most_states)
        shown = tuple(rng.randrange(letters) for _ in range(states))
        workers.append((letters, shown, tuple(random_code(rng, many, states, depth) for _ in range(states))))
    indexes = [worker for worker in range(len(many)) if steady and rng.random() < 0.4]
    return (tuple(workers), tuple(indexes[:2]))


def random_nets(many, **sizes):
    """Return so many nets, the same ones always."""
    rng = random.Random(many)
    return [random_net(rng, **sizes) for _ in range(many)]


def random_entry(rng, many):
    """Return an ascending tuple of at least one integer below many."""
    members = [member for member in range(many) if rng.random() < 0.5]
    return tuple(members) if members else (rng.randrange(many),)


def random_lots(rng, many):
    """Return lots of workers with so many letters each."""
    return tuple(random_entry(rng, letters) for letters in many)


def every_entry(many):
    """Return all ascending tuples of at least one integer below many."""
    return [tuple(k for k in range(many) if mask >> k & 1) for mask in range(1, 2 ** many)]


def all_paths(code):
    """Return a tuple (pairs, state) for each way through a code, pairs being (asked worker, letter) for each get."""
    paths = []
    waiting = [((), code)]
    while waiting:
        pairs, part = waiting.pop()
        if part[0] == "go":
            paths.append((pairs, part[1]))
        else:
            waiting += [(pairs + ((part[1], letter),), below) for letter, below in enumerate(part[2])]
    return paths


def plain_results(code, lots):
    """Return the set of states come to, as the document defines a step by lots."""
    return {state for pairs, state in all_paths(code) if all(letter in lots[asked] for asked, letter in pairs)}


def plain_table(net, may_come=lambda worker, state: True):
    """Return the table by trying all steps until nothing is new."""
    box = [{0} for _ in net[0]]
    grew = True
    while grew:
        grew = False
        lots = [{worker[1][state] for state in entry} for worker, entry in zip(net[0], box)]
        for index, (_, _, codes) in enumerate(net[0]):
            for state in list(box[index]):
                for come in plain_results(codes[state], lots):
                    if come not in box[index] and may_come(index, come):
                        box[index].add(come)
                        grew = True
    return tuple(tuple(sorted(entry)) for entry in box)


def every_tuple(many):
    """Return all ascending tuples of indexes below many, the smaller ones first."""
    return [some for size in range(many + 1) for some in itertools.combinations(range(many), size)]


def all_boxes(net):
    """Return all boxes of a net, ascending."""
    return sorted(itertools.product(*[every_entry(len(shown)) for _, shown, _ in net[0]]))


def all_vectors(net):
    """Return all vectors of a net, ascending."""
    return list(itertools.product(*[range(len(shown)) for _, shown, _ in net[0]]))


def in_box(one, other):
    """Tell whether one box lies in another one."""
    return all(set(entry) <= set(further) for entry, further in zip(one, other))


def plain_shown(net, box):
    """Return the letters that each worker shows at its states of a box, as sets."""
    return [{worker[1][state] for state in entry} for worker, entry in zip(net[0], box)]


def plain_ways(net, worker, states, lots):
    """Return the pairs of states between which a way of at least one step by the lots leads, through the states."""
    codes = net[0][worker][2]
    ways = {(one, other) for one in states for other in plain_results(codes[one], lots) if other in states}
    for middle in states:
        for one in states:
            for other in states:
                if (one, middle) in ways and (middle, other) in ways:
                    ways.add((one, other))
    return ways


def plain_piece(net, worker, states, lots):
    """Tell whether the states are one piece by the lots."""
    return len(plain_ways(net, worker, states, lots)) == len(states) ** 2


def plain_held_up(net, box):
    """Tell whether each entry is one piece by the lots shown in the box."""
    lots = plain_shown(net, box)
    return all(plain_piece(net, worker, entry, lots) for worker, entry in enumerate(box))


def plain_leaves(net, box):
    """Tell whether some step by the lots shown in the box leads out of it."""
    lots = plain_shown(net, box)
    return any(not plain_results(worker[2][state], lots) <= set(entry)
               for worker, entry in zip(net[0], box) for state in entry)


def plain_moments(net):
    """Return the set of all (vector, letters shown so far) of runs of a small net, found deed by deed."""
    workers = range(len(net[0]))
    first = (tuple(0 for _ in workers), tuple(frozenset([worker[1][0]]) for worker in net[0]))
    found = {first}
    waiting = [first]
    while waiting:
        vector, seen = waiting.pop()
        for worker in workers:
            come = plain_results(net[0][worker][2][vector[worker]], seen)
            for state in come | (set() if worker in net[1] else {0}):
                letters = seen[worker] | {net[0][worker][1][state]}
                moment = (vector[:worker] + (state,) + vector[worker + 1:],
                          seen[:worker] + (letters,) + seen[worker + 1:])
                if moment not in found:
                    found.add(moment)
                    waiting.append(moment)
    return found


def plain_knots(net):
    """Return the set of the knots that can be, from the moments of runs."""
    return {(tuple(vector[worker] for worker in net[1]), tuple(tuple(sorted(seen[worker])) for worker in net[1]))
            for vector, seen in plain_moments(net)}


def plain_ends(net, road):
    """Return the ascending list of all ends, from the moments of runs.

    A box is one if its entries are pieces, and at some moment all workers are within it and have shown its letters.
    """
    moments = plain_moments(net)
    ends = []
    for box in all_boxes(net):
        if plain_held_up(net, box) and not (road == "just" and plain_leaves(net, box)):
            lots = plain_shown(net, box)
            if any(all(state in entry for state, entry in zip(vector, box))
                   and all(letters <= seen for letters, seen in zip(lots, shown)) for vector, shown in moments):
                ends.append(box)
    return ends


def plain_greatest(boxes):
    """Return those of the boxes that lie in no other one."""
    return [box for box in boxes if not any(box != other and in_box(box, other) for other in boxes)]


def plain_least(boxes):
    """Return those of the boxes in which no other one lies."""
    return [box for box in boxes if not any(box != other and in_box(other, box) for other in boxes)]


def lazy_code(rng, many, states, here, depth):
    """Return a code of a worker that often stays where it is."""
    if depth == 0 or rng.random() < 0.15:
        return ("go", here if rng.random() < 0.4 else rng.randrange(states))
    asked = rng.randrange(len(many))
    return ("get", asked, tuple(lazy_code(rng, many, states, here, depth - 1) for _ in range(many[asked])))


def small_nets(many, steady=False):
    """Return so many nets with at most 27 vectors and with several ends each, of all ages of letters."""
    rng = random.Random(many)
    nets = []
    while len(nets) < many:
        letters = [rng.randint(1, 2) for _ in range(rng.randint(1, 3))]
        workers = []
        for mine in letters:
            states = rng.randint(2, 3)
            codes = tuple(lazy_code(rng, letters, states, here, rng.randint(1, 2)) for here in range(states))
            workers.append((mine, tuple(rng.randrange(mine) for _ in range(states)), codes))
        indexes = [worker for worker in range(len(letters)) if steady and rng.random() < 0.5]
        net = (tuple(workers), tuple(indexes[:2]))
        if len(plain_moments(net)) > 3 * len(letters):
            nets.append(net)
    return nets


def talking(many):
    """Return a worker that shows so many letters, one after the other, again and again."""
    return (many, tuple(range(many)), tuple(("go", (at + 1) % many) for at in range(many)))


def random_claim(rng, net, most):
    """Return a claim with at most so many claims in it."""
    if most < 2:
        worker = rng.randrange(len(net[0]))
        return ("again", worker, random_entry(rng, len(net[0][worker][1])))
    word = rng.choice(("not", "and", "or"))
    if word == "not" or most < 3:
        return ("not", random_claim(rng, net, most - 1))
    mine = rng.randint(1, most - 2)
    return (word, random_claim(rng, net, mine), random_claim(rng, net, most - 1 - mine))


def plain_holds(claim, box, again=lambda worker, states, entry: bool(set(states) & set(entry))):
    """Tell whether a claim holds at a box; again tells whether an "again" claim holds at an entry."""
    if claim[0] == "again":
        return again(claim[1], claim[2], box[claim[1]])
    parts = [plain_holds(part, box, again) for part in claim[1:]]
    return {"not": not parts[0], "and": all(parts), "or": any(parts)}[claim[0]]


def spoil(value):
    """Change all lists and dicts in a value."""
    if isinstance(value, (list, tuple)):
        for part in value:
            spoil(part)
    if isinstance(value, list):
        value.reverse()
        value.append("spoilt")
    if isinstance(value, dict):
        for part in value.values():
            spoil(part)
        value["spoilt"] = []


def check_new(test, call):
    """Check that what a call returned may be changed without changing what it returns later."""
    first = call()
    kept = copy.deepcopy(first)
    spoil(first)
    again = call()
    test.assertEqual(again, kept)
    test.assertEqual(repr(again), repr(kept))


def check_steady_first(test, calls):
    """Check that calls of a net alone raise IsSteady with its least steady worker."""
    for steady, least in (((2,), 2), ((1, 2), 1), ((0, 1, 2), 0)):
        for call in calls:
            with test.assertRaises(IsSteady) as caught:
                call((THREE_NET[0], steady))
            test.assertEqual(caught.exception.worker, least)
