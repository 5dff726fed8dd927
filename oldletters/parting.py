"""Surroundings that part two parts, and ends as the surroundings see them [63]."""

from oldletters.borders import Border
from oldletters.choices import are_more, boxes_in
from oldletters.errors import TooMany
from oldletters.joins import lacking_lots, unlike_rows
from oldletters.nets import all_states, check_no_steady, shown_lots
from oldletters.parts import joined_net, shown_letters
from oldletters.pieces import edges_of, is_one_piece
from oldletters.tables import states_from, table_of

MOST_BOXES = 512


def caller(letters, ever, again):
    """Return a worker that shows all letters of ever, and those of again alone again and again, with its end."""
    begun = [letter for letter in ever if letter not in again]
    shown = tuple(begun) + again
    codes = [("go", state + 1) for state in range(len(shown) - 1)] + [("go", len(begun))]
    return (letters, shown, tuple(codes)), tuple(range(len(begun), len(shown)))


def noticer(asked, letters, wanted):
    """Return a worker that stays at state 1 when it has got a letter of the asked worker, with this end."""
    look = ("get", asked, tuple([("go", 1 if letter == wanted else 0) for letter in range(letters)]))
    return (1, (0, 0), (look, ("go", 1))), (1,)


def circler(first, many, lot):
    """Return a worker that goes round by the letters of a lot, with its end; the shown workers have indexes from
    first on, and so many letters.

    It goes on by each letter of the lot and stays by the other ones of it; other letters lead it out for ever.
    """
    pairs = [(index, letter) for index, entry in enumerate(lot) for letter in entry]
    out = len(pairs)
    codes = []
    for state, (index, wanted) in enumerate(pairs):
        come = [out for _ in range(many[index])]
        for letter in lot[index]:
            come[letter] = state
        come[wanted] = (state + 1) % len(pairs)
        codes.append(("get", first + index, tuple([("go", goal) for goal in come])))
    codes.append(("go", out))
    return (1, tuple([0 for _ in codes]), tuple(codes)), tuple(range(out))


def lacking_letter(letters, others):
    """Return the first tuple (index, letter) of a letter that the others lack, or None."""
    for index, (entry, wide) in enumerate(zip(letters, others)):
        for letter in entry:
            if letter not in wide:
                return (index, letter)
    return None


def watcher_for(row, other, road, first, many):
    """Return a worker with an end that it has beside a part with this row and not beside one with the other, or None;
    first and many are as circler takes them."""
    letter = lacking_letter(row[2], other[2])
    if letter is not None:
        return noticer(first + letter[0], many[letter[0]], letter[1])
    lots = lacking_lots(row[3], other[3], road)
    return circler(first, many, lots[0]) if lots else None


def parting_surroundings(one, other, road):
    """Return a tuple (around, box, which), or None if the parts are alike; raise Unlike, TooMany."""
    rows = unlike_rows(one, other, road)
    if rows is None:
        return None
    foreign = one[0]
    ever, again = rows[0][:2]
    workers = [caller(letters, entry, less) for letters, entry, less in zip(foreign, ever, again)]
    first = len(foreign) + 1
    many = shown_letters(one)
    which = 0
    watcher = watcher_for(rows[0], rows[1], road, first, many)
    if watcher is None:
        which = 1
        watcher = watcher_for(rows[1], rows[0], road, first, many)
    workers.append(watcher)
    return ((tuple([worker for worker, _ in workers]), ()), tuple([entry for _, entry in workers]), which)


def border_ends(part, around, road):
    """Return the ascending list of the entries for the surroundings of all ends of the net of both, each once; raise
    Unlike, IsSteady, TooMany."""
    net = joined_net(part, around)
    check_no_steady(net)
    if are_more(all_states(around), MOST_BOXES):
        raise TooMany(MOST_BOXES)
    table = table_of(net)
    foreign, workers, shown = part
    ever = shown_lots(net, table)[:len(foreign)]
    border = Border(part, road)
    lots_for = {}
    found = []
    for box in boxes_in(table[:len(around[0])]):
        outer = shown_lots(around, box)
        again = outer[:len(foreign)]
        if again not in lots_for:
            lots_for[again] = [own_lots(len(workers), shown, lot) for lot in border.lots(ever, again)]
        if any([are_end_entries(net, box, outer + own, road) for own in lots_for[again]]):
            found.append(box)
    return sorted(found)


def own_lots(many, shown, lot):
    """Return lots of so many own workers that have a lot of the shown ones; the others are asked by none outside."""
    return tuple([lot[shown.index(worker)] if worker in shown else (0,) for worker in range(many)])


def are_end_entries(net, box, lots, road):
    """Tell whether each entry of a box, which may lack the last workers, is one piece by the lots, and on a just road
    left by no step."""
    for worker, entry in enumerate(box):
        if not is_one_piece(edges_of(net, worker, entry, lots)):
            return False
        if road == "just" and states_from(net, worker, entry, lots, lambda one, state: True) != entry:
            return False
    return True
