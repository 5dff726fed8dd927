"""Parts, and what parts show by plain searches, for several tests."""

import itertools
import random

from oldletters.borders import row_of
from tests.samples import every_entry, lazy_code, plain_piece, plain_results

COPY = ("get", 0, (("go", 0), ("go", 1)))
# It copies the letter of its foreign worker.
COPIER = ((2,), ((2, (0, 1), (COPY, COPY)),), (0,))
# It shows 1 for ever when it has seen 1 once.
LATCHER = ((2,), ((2, (0, 1), (COPY, ("go", 1))),), (0,))
# It never shows 1.
SILENT = ((2,), ((2, (0,), (("go", 0),)),), (0,))
# Without foreign workers: it goes round, and it stays at one of two states.
ROUND = ((), ((2, (0, 1), (("go", 1), ("go", 0))),), (0,))
FORMS = [(), (1,), (2,), (3,), (2, 1), (2, 2)]


def random_worker(rng, letters, many, states):
    """Return a worker that often stays where it is."""
    count = rng.randint(1, states) if rng.random() < 0.2 else states
    codes = tuple(lazy_code(rng, many, count, here, rng.randint(1, 2)) for here in range(count))
    return (letters, tuple(rng.randrange(letters) for _ in range(count)), codes)


def random_part(rng, foreign, own, shown, states=3, letters=2):
    """Return a part with so many own workers and shown ones."""
    mine = [rng.randint(1, letters) if rng.random() < 0.2 else letters for _ in range(own)]
    workers = tuple(random_worker(rng, one, list(foreign) + mine, states) for one in mine)
    return (foreign, workers, tuple(sorted(rng.sample(range(own), shown))))


def random_parts(many, own=3, shown=3, **sizes):
    """Return so many parts of all forms, the same ones always."""
    rng = random.Random(many)
    parts = []
    for index in range(many):
        here = rng.randint(1, own)
        parts.append(random_part(rng, FORMS[index % len(FORMS)], here, rng.randint(1, min(here, shown)), **sizes))
    return parts


def lively_parts(many, own=3, shown=3, **sizes):
    """Return so many parts that have a row with several lots on one of the roads, the same ones always."""
    rng = random.Random(many)
    parts = []
    while len(parts) < many:
        here = rng.randint(1, own)
        part = random_part(rng, rng.choice(FORMS), here, rng.randint(1, min(here, shown)), **sizes)
        evers = all_pairs(part[0])
        if any(len(row_of(part, road, *rng.choice(evers))[3]) > 1 for road in ("lossy", "just")):
            parts.append(part)
    return parts


def random_around(rng, part, further, states=3, steady=()):
    """Return surroundings with so many workers behind the foreign ones."""
    foreign, workers, shown = part
    mine = list(foreign) + [rng.randint(1, 2) for _ in range(further)]
    many = mine + [workers[index][0] for index in shown]
    return (tuple(random_worker(rng, letters, many, states) for letters in mine), steady)


def plain_net(part):
    """Return what looks like a net: the foreign workers without states of their own, and the own ones."""
    return (tuple((letters, (), ()) for letters in part[0]) + part[1], ())


def plain_lots(part, again, box):
    """Return the sets of letters: again, and what the own workers show at their states of a box."""
    return [set(entry) for entry in again] + [{worker[1][state] for state in entry}
                                              for worker, entry in zip(part[1], box)]


def plain_part_table(part, ever):
    """Return the part's table by trying all steps until nothing is new."""
    box = [{0} for _ in part[1]]
    grew = True
    while grew:
        lots = plain_lots(part, ever, box)
        wider = [set(entry).union(*[plain_results(worker[2][state], lots) for state in entry])
                 for worker, entry in zip(part[1], box)]
        grew = wider != box
        box = wider
    return box


def plain_part_ends(part, road, ever, again):
    """Return all ends of a part, by trying all boxes of its own workers."""
    table = plain_part_table(part, ever)
    first = len(part[0])
    ends = []
    for box in itertools.product(*[every_entry(len(worker[1])) for worker in part[1]]):
        if not all(set(entry) <= wide for entry, wide in zip(box, table)):
            continue
        lots = plain_lots(part, again, box)
        if not all(plain_piece(plain_net(part), first + at, entry, lots) for at, entry in enumerate(box)):
            continue
        leaves = any(not plain_results(worker[2][state], lots) <= set(entry)
                     for worker, entry in zip(part[1], box) for state in entry)
        if road == "lossy" or not leaves:
            ends.append(box)
    return ends


def lot_of(part, box):
    """Return the lot of a box of the own workers."""
    return tuple(tuple(sorted({part[1][at][1][state] for state in box[at]})) for at in part[2])


def lot_lies_in(one, other):
    """Tell whether a lot lies in another one."""
    return all(set(entry) <= set(wide) for entry, wide in zip(one, other))


def plain_row(part, road, ever, again):
    """Return the row by all boxes."""
    lots = {lot_of(part, box) for box in plain_part_ends(part, road, ever, again)}
    if road == "lossy":
        lots = {lot for lot in lots if not any(lot != other and lot_lies_in(lot, other) for other in lots)}
    return (ever, again, lot_of(part, plain_part_table(part, ever)), tuple(sorted(lots)))


def all_pairs(foreign):
    """Return all (ever, again), ascending."""
    evers = list(itertools.product(*[every_entry(letters) for letters in foreign]))
    return sorted((ever, again) for ever in evers for again in evers if lot_lies_in(again, ever))


def maximal(lots):
    """Return the ascending tuple of those of the lots that lie in no other one."""
    return tuple(sorted(lot for lot in set(lots) if not any(lot != more and lot_lies_in(lot, more) for more in lots)))


def drawn_rows(rng, foreign, letters):
    """Return rows by form that rise; often there is no nested choice for some ever."""
    own = {}
    rows = []
    more = rng.choice((0, 0.1, 0.3))
    for ever, again in sorted(all_pairs(foreign), key=lambda pair: sum(map(len, pair[0] + pair[1]))):
        own[(ever, again)] = [(entry,) for entry in every_entry(letters) if rng.random() < more]
        lots = [lot for (less, fewer), some in own.items() for lot in some
                if lot_lies_in(less, ever) and lot_lies_in(fewer, again)]
        if not lots:
            lots = own[(ever, again)] = [(rng.choice(every_entry(letters)[:letters + 1]),)]
        rows.append((ever, again, maximal(lots)))
    haves = {ever: {0}.union(*[lot[0] for less, _, lots in rows if lot_lies_in(less, ever) for lot in lots])
             for ever, _, _ in rows}
    return sorted((ever, again, (tuple(sorted(haves[ever])),), lots) for ever, again, lots in rows)
