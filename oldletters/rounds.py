"""Endless runs: a way, and a round that is done again and again [6], [48]."""

from oldletters.codes import steps_of
from oldletters.ends import is_end_by
from oldletters.errors import NoEnd, NoRound
from oldletters.knots import KnotMap, free_workers, tour_to
from oldletters.nets import shown_lots
from oldletters.pieces import full_walk, walk_through
from oldletters.runs import first_fault, run_with
from oldletters.tables import state_along


def endless_run(net, box, road):
    """Return an endless run on such a road whose end is the box; raise NoEnd."""
    knots = KnotMap(net)
    if not is_end_by(knots, box, road):
        raise NoEnd(box)
    # The least knot that an end fits has steady workers at the least states of their entries: within these, which are
    # pieces, they could have gone there and shown nothing new.
    tour = tour_to(knots, knots.fitting(box))
    tour.gather(free_workers(net), [entry[0] for entry in box])
    return (tour.run.deeds(), round_through(net, box, road))


def round_through(net, box, road):
    """Return a round through an end on such a road, that begins with each worker at the least state of its entry."""
    lots = shown_lots(net, box)
    steps = []
    for worker, entry in enumerate(box):
        if road == "just":
            walk = full_walk(net, worker, entry, lots)
        else:
            walk = walk_through(net, worker, entry, lots)
        steps.extend([(worker, answers) for _, answers in walk])
    return steps


def round_rows(net, where, seen, steps, first):
    """Return for each round step a tuple (worker, before, answers, state); raise NoRound for what cannot be done.

    where has the state of each worker before the round, seen the letters that each has shown; first is the index that
    NoRound has for the first round step.
    """
    where = list(where)
    seen = [list(letters) for letters in seen]
    rows = []
    for index, (worker, answers) in enumerate(steps, start=first):
        _, shown, codes = net[0][worker]
        state = state_along(codes[where[worker]], answers, seen)
        if state is None:
            raise NoRound(index)
        rows.append((worker, where[worker], answers, state))
        where[worker] = state
        seen[worker].append(shown[state])
    return rows


def end_by_rows(net, rows, first):
    """Return the end of a round with these rows; raise NoRound, first being as in round_rows."""
    workers = list(range(len(net[0])))
    box = tuple([tuple(sorted({state for other, _, _, state in rows if other == worker})) for worker in workers])
    lots = shown_lots(net, box)
    for index, (worker, before, answers, _) in enumerate(rows, start=first):
        if state_along(net[0][worker][2][before], answers, lots) is None:
            raise NoRound(index)
    if not all([comes_round(rows, worker) for worker in workers]):
        raise NoRound(first + len(rows))
    return box


def rows_behind(net, thing):
    """Return the rows of the round of an endless run; raise NoRound for what cannot be done."""
    way, steps = thing
    fault = first_fault(net, way)
    if fault is not None:
        raise NoRound(fault)
    run = run_with(net, way)
    return round_rows(net, run.at(), run.lots(), steps, len(way))


def end_of(net, thing):
    """Return the end of an endless run; raise NoRound with the first place where it fails."""
    return end_by_rows(net, rows_behind(net, thing), len(thing[0]))


def comes_round(rows, worker):
    """Tell whether a worker has rows, and is behind them where it was before them."""
    own = [(before, state) for other, before, _, state in rows if other == worker]
    return len(own) > 0 and own[0][0] == own[-1][1]


def is_full(net, thing):
    """Tell whether the round has each step, with each of its answers, by the lots shown in its end."""
    box = end_of(net, thing)
    lots = shown_lots(net, box)
    done = {(worker, before, answers) for worker, before, answers, _ in rows_behind(net, thing)}
    return all([(worker, before, answers) in done for worker, entry in enumerate(box) for before in entry
                for answers, _ in steps_of(net[0][worker][2][before], lots)])
