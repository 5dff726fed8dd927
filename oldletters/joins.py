"""Parts of one form: which can be exchanged, and parts put in a row [62]."""

from oldletters.borders import rows_of
from oldletters.errors import Unlike
from oldletters.nets import asking, greatest_of, lies_in
from oldletters.parts import shown_letters


def rows_of_both(one, other, road):
    """Return a list of tuples (row of one, row of other) for parts of one form; raise Unlike, TooMany."""
    if one[0] != other[0] or shown_letters(one) != shown_letters(other):
        raise Unlike()
    return list(zip(rows_of(one, road), rows_of(other, road)))


def unlike_rows(one, other, road):
    """Return the first tuple (row of one, row of other) of different rows, or None; raise Unlike, TooMany."""
    for row, further in rows_of_both(one, other, road):
        if row != further:
            return (row, further)
    return None


def is_alike(one, other, road):
    """Tell whether the rows of the parts are equal; raise Unlike, TooMany."""
    return unlike_rows(one, other, road) is None


def first_unlike(one, other, road):
    """Return (ever, again) of the first row in which the parts differ, or None; raise Unlike, TooMany."""
    rows = unlike_rows(one, other, road)
    return None if rows is None else rows[0][:2]


def lacking_lots(lots, others, road):
    """Return those of the lots that do not lie in one of the others (lossy), or are none of them (just)."""
    if road == "just":
        return [lot for lot in lots if lot not in others]
    return [lot for lot in lots if not any([lies_in(lot, wide) for wide in others])]


def stands_for(one, other, road):
    """Tell whether one shows no letters and no lots that other does not show; raise Unlike, TooMany."""
    return all([lies_in(row[2], further[2]) and lacking_lots(row[3], further[3], road) == []
                for row, further in rows_of_both(one, other, road)])


def put_in_row(one, other):
    """Return the part in which the shown workers of one are the foreign ones of other; raise Unlike."""
    foreign, workers, shown = one
    if shown_letters(one) != other[0]:
        raise Unlike()
    first = len(foreign) + len(workers)
    table = tuple([len(foreign) + index for index in shown]) + tuple(range(first, first + len(other[1])))
    behind = tuple([asking(worker, table) for worker in other[1]])
    return (foreign, workers + behind, tuple([len(workers) + index for index in other[2]]))


def rows_in_row(some, others, road):
    """Return the rows of two parts put in a row, made from the rows of both."""
    table = {(ever, again): (letters, lots) for ever, again, letters, lots in others}
    rows = []
    for ever, again, letters, lots in some:
        found = [further for lot in lots for further in table[(letters, lot)][1]]
        behind = sorted(set(found)) if road == "just" else greatest_of(found)
        rows.append((ever, again, table[(letters, lots[0])][0], tuple(behind)))
    return rows
