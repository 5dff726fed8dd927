"""Values that several tests use: nets, codes, values of any kind, and values with one part exchanged."""

import random

from oldletters.errors import NoState, Wrong
from oldletters.runs import Run

LOOK = ("get", 1, (("go", 0), ("go", 1)))
LATCH = (2, (0, 1), (LOOK, ("go", 1)))
TURN = (2, (0, 1), (("get", 0, (("go", 1), ("go", 0))), ("get", 0, (("go", 1), ("go", 0)))))
LATCH_NET = ((LATCH, TURN), ())
# Three workers of unlike sizes, the last one steady; one letter that no state shows, two states with one letter.
THREE_NET = (
    (
        (3, (0, 2), (("get", 2, (("go", 0), ("get", 0, (("go", 1), ("go", 0), ("go", 1))))), ("go", 0))),
        (1, (0, 0, 0), (("go", 1), ("get", 1, (("go", 2),)), ("get", 0, (("go", 0), ("go", 1), ("go", 2))))),
        (2, (1, 0), (("get", 2, (("go", 0), ("go", 1))), ("go", 0))),
    ),
    (2,),
)
SELF_NET = (((2, (1,), (("get", 0, (("go", 0), ("go", 0))),)),), (0,))
BIG_NET = (((7, (6, 5, 4, 3, 2, 1, 0), (("go", 6),) * 7),) * 7, (0, 2, 6))
NETS = [LATCH_NET, THREE_NET, SELF_NET, BIG_NET]


def deep(many, kind):
    """Return a value of one kind so many deep."""
    value = kind()
    for _ in range(many):
        if kind is dict:
            value = {"go": value}
        else:
            value = kind([value])
    return value


def deep_code(many):
    """Return what looks like a code so many deep, but goes to no state at its end."""
    value = ("go", None)
    for _ in range(many):
        value = ("get", 0, (value,))
    return value


def odd_values():
    """Return values of any kind that are no net, code, box, deed and so on."""
    return [
        None, True, False, "", "go", "lossy ", "a b\nc", [], {}, {"go": 0}, {0: ()}, [0], [[]], [()], ((),),
        ("go",), ("get",), ("get", 0), ("get", 0, ()), ("go", True), ("not",), ("and", 0), ("again", 0, ()),
        (True,), (None,), ("step",), ("step", 0), ("fall",), -1, -(10 ** 39), 10 ** 39, (10 ** 39,), (-1,),
        Run(LATCH_NET), (Run(LATCH_NET),), NoState(0), (NoState(0), Wrong(1)), [Run(SELF_NET)],
        deep(20, list), deep(20, tuple), deep(20, dict), deep_code(18), ("go", deep(18, tuple)),
        ("not", deep(18, tuple)), tuple(range(6000)), [0] * 6000, ((0,),) * 2000, "x" * 6000,
    ]


def paths_in(value, path=()):
    """Return the paths of all parts of a value of lists and tuples, its own, (), first."""
    paths = [path]
    if isinstance(value, (list, tuple)):
        for index, part in enumerate(value):
            paths.extend(paths_in(part, path + (index,)))
    return paths


def part_at(value, path):
    """Return the part at a path."""
    for index in path:
        value = value[index]
    return value


def with_part(value, path, part):
    """Return the value with another part at a path."""
    if path == ():
        return part
    parts = list(value)
    parts[path[0]] = with_part(value[path[0]], path[1:], part)
    return type(value)(parts)


def wrong_kinds(part):
    """Return what can nowhere stand in the place of a part."""
    kinds = [None, {}, {0: 0}, Run(SELF_NET), "xx", True, False, -1, deep(15, tuple), deep(15, list)]
    if isinstance(part, list):
        return kinds + [tuple(part), {index: one for index, one in enumerate(part)}]
    if isinstance(part, tuple):
        return kinds + [list(part), {index: one for index, one in enumerate(part)}]
    if isinstance(part, int):
        return kinds + [(part,), [part], str(part), -part - 1]
    if part is None:
        return kinds[1:] + [0, "None", (), (None,)]
    return kinds + [part.upper(), part + " ", part + "\n", part[:-1], (part,), [part], 0]


def doubtful_kinds(part):
    """Return what may be right or wrong in the place of a part."""
    if isinstance(part, (list, tuple)):
        kind = type(part)
        empty = kind()
        return [part[1:], part[:-1], empty, part[::-1], part + part[:1], part + part[-1:], part[:1] + part,
                part + kind([0]), part + kind([()]), kind([part])]
    if isinstance(part, int):
        return [part + 1, part - 1, part + 7, 0, 1, 10 ** 39]
    if part is None:
        return [0, 1, ()]
    return ["go", "get", "not", "and", "or", "again", "step", "fall"]


def exchanged(value, kinds):
    """Return the value with one part, at any depth, exchanged for each of kinds(part)."""
    return [with_part(value, path, other) for path in paths_in(value) for other in kinds(part_at(value, path))]


def random_code(rng, many, states, depth):
    """Return a code for workers with so many letters each."""
    if depth == 0 or rng.random() < 0.2:
        return ("go", rng.randrange(states))
    asked = rng.randrange(len(many))
    return ("get", asked, tuple(random_code(rng, many, states, depth - 1) for _ in range(many[asked])))


def random_net(rng, most_workers=4, most_states=4, most_letters=3, depth=2, steady=False):
    """Return a net of at most this size."""
    many = [rng.randint(1, most_letters) for _ in range(rng.randint(1, most_workers))]
    workers = []
    for letters in many:
        states = rng.randint(1, most_states)
        shown = tuple(rng.randrange(letters) for _ in range(states))
        workers.append((letters, shown, tuple(random_code(rng, many, states, depth) for _ in range(states))))
    indexes = [worker for worker in range(len(many)) if steady and rng.random() < 0.4]
    return (tuple(workers), tuple(indexes[:2]))


def random_nets(many, **sizes):
    """Return so many nets, the same ones always."""
    rng = random.Random(many)
    return [random_net(rng, **sizes) for _ in range(many)]


def random_entry(rng, many):
    """Return an ascending tuple of at least one integer below many."""
    members = [member for member in range(many) if rng.random() < 0.5]
    return tuple(members) if members else (rng.randrange(many),)


def random_lots(rng, many):
    """Return lots of workers with so many letters each."""
    return tuple(random_entry(rng, letters) for letters in many)


def every_entry(many):
    """Return all ascending tuples of at least one integer below many."""
    return [tuple(k for k in range(many) if mask >> k & 1) for mask in range(1, 2 ** many)]


def all_paths(code):
    """Return a tuple (pairs, state) for each way through a code, pairs being (asked worker, letter) for each get."""
    paths = []
    waiting = [((), code)]
    while waiting:
        pairs, part = waiting.pop()
        if part[0] == "go":
            paths.append((pairs, part[1]))
        else:
            waiting += [(pairs + ((part[1], letter),), below) for letter, below in enumerate(part[2])]
    return paths


def plain_results(code, lots):
    """Return the set of states come to, as the document defines a step by lots."""
    return {state for pairs, state in all_paths(code) if all(letter in lots[asked] for asked, letter in pairs)}


def plain_table(net, may_come=lambda worker, state: True):
    """Return the table by trying all steps until nothing is new."""
    box = [{0} for _ in net[0]]
    grew = True
    while grew:
        grew = False
        lots = [{worker[1][state] for state in entry} for worker, entry in zip(net[0], box)]
        for index, (_, _, codes) in enumerate(net[0]):
            for state in list(box[index]):
                for come in plain_results(codes[state], lots):
                    if come not in box[index] and may_come(index, come):
                        box[index].add(come)
                        grew = True
    return tuple(tuple(sorted(entry)) for entry in box)
