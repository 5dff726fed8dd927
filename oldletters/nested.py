"""Which rows are those of a part with one shown worker, on lossy roads [65]."""

from oldletters.borders import pairs_of
from oldletters.forms import are_integers, is_choice, is_integer, is_tuple_of
from oldletters.nets import lies_in, with_member


def is_lots_of(foreign, thing):
    """Tell whether thing has for each foreign worker an ascending tuple of at least one of its letters."""
    return is_tuple_of(thing, len(foreign)) and all([is_choice(entry, letters)
                                                     for entry, letters in zip(thing, foreign)])


def is_row_of(foreign, letters, thing):
    """Tell whether thing, any value, is one row by form."""
    if not is_tuple_of(thing, 4) or not is_lots_of(foreign, thing[0]) or not is_lots_of(foreign, thing[1]):
        return False
    _, _, have, lots = thing
    if not is_lots_of((letters,), have) or not isinstance(lots, tuple) or len(lots) == 0:
        return False
    return all([is_lots_of((letters,), lot) for lot in lots]) and all([low < high for low, high in zip(lots, lots[1:])])


def is_rows(foreign, letters, thing):
    """Tell whether thing, any value, is rows by form for these foreign workers and so many letters."""
    if not isinstance(thing, list) or not all([is_row_of(foreign, letters, row) for row in thing]):
        return False
    return [row[:2] for row in thing] == pairs_of(foreign)


def common(lot, free):
    """Return the ascending tuple of the letters that are in lot and in free."""
    return tuple([letter for letter in lot if letter in free])


def moves_of(again):
    """Return the ascending list of tuples (worker, letter, again without this letter), for each letter of each entry
    that has more than one."""
    moves = []
    for worker, entry in enumerate(again):
        if len(entry) > 1:
            for letter in entry:
                less = tuple([other for other in entry if other != letter])
                moves.append((worker, letter, with_member(again, worker, less)))
    return moves


class Nest:
    """The choices and refusals of one ever."""

    def __init__(self, rows, ever):
        self.lots_for = {again: [lot[0] for lot in lots] for one, again, _, lots in rows if one == ever}
        self.choices = {}

    def choice(self, again, free):
        """Return a choice of again and free, or None."""
        if (again, free) not in self.choices:
            self.choices[(again, free)] = self.new_choice(again, free)
        return self.choices[(again, free)]

    def new_choice(self, again, free):
        """Work out what choice returns."""
        moves = moves_of(again)
        for lot in self.lots_for[again]:
            inner = common(lot, free)
            if inner and not moves:
                return ("last", lot, inner[0])
            if inner:
                below = [(worker, letter, self.choice(less, inner)) for worker, letter, less in moves]
                if all([choice is not None for _, _, choice in below]):
                    return ("less", lot, tuple(below))
        return None

    def refusal(self, again, free):
        """Return a refusal of again and free, or None; there is one where there is no choice."""
        if self.choice(again, free) is not None:
            return None
        moves = moves_of(again)
        entries = []
        for lot in self.lots_for[again]:
            inner = common(lot, free)
            entry = None
            if inner:
                worker, letter, less = [move for move in moves if self.choice(move[2], inner) is None][0]
                entry = (worker, letter, self.refusal(less, inner))
            entries.append(entry)
        return tuple(entries)

    def is_choice_of(self, again, free, thing):
        """Tell whether thing, any value, is a choice of again and free."""
        if not is_tuple_of(thing, 3) or not are_integers(thing[1]) or thing[1] not in self.lots_for[again]:
            return False
        word, lot, below = thing
        inner = common(lot, free)
        moves = moves_of(again)
        if not moves:
            return word == "last" and is_integer(below) and below in inner
        if word != "less" or not inner or not is_tuple_of(below, len(moves)):
            return False
        return all([is_entry_of(entry, move) and self.is_choice_of(move[2], inner, entry[2])
                    for entry, move in zip(below, moves)])

    def is_refusal_of(self, again, free, thing):
        """Tell whether thing, any value, is a refusal of again and free."""
        lots = self.lots_for[again]
        return is_tuple_of(thing, len(lots)) and all([self.refuses(again, common(lot, free), entry)
                                                      for lot, entry in zip(lots, thing)])

    def refuses(self, again, inner, entry):
        """Tell whether entry, any value, stands in a refusal for a lot with these letters that are free."""
        if not inner:
            return entry is None
        return any([is_entry_of(entry, move) and self.is_refusal_of(move[2], inner, entry[2])
                    for move in moves_of(again)])


def is_entry_of(thing, move):
    """Tell whether thing, any value, is a tuple of three that begins with the worker and the letter of a move."""
    return is_tuple_of(thing, 3) and are_integers(thing[:2]) and thing[:2] == move[:2]


def all_letters(letters):
    """Return the tuple of so many letters."""
    return tuple(range(letters))


def choice_for(foreign, letters, rows, ever):
    """Return a nested choice for ever, or None."""
    return Nest(rows, ever).choice(ever, all_letters(letters))


def refusal_for(foreign, letters, rows, ever):
    """Return a refusal for ever, or None."""
    return Nest(rows, ever).refusal(ever, all_letters(letters))


def is_choice_for(foreign, letters, rows, ever, thing):
    """Tell whether thing, any value, is a nested choice for ever."""
    return Nest(rows, ever).is_choice_of(ever, all_letters(letters), thing)


def is_refusal_for(foreign, letters, rows, ever, thing):
    """Tell whether thing, any value, is a refusal for ever."""
    return Nest(rows, ever).is_refusal_of(ever, all_letters(letters), thing)


def rows_fault(foreign, letters, rows):
    """Return the first fault of rows by form, or None if they are those of a part."""
    if not any([all([letter in have[0] for _, _, have, _ in rows]) for letter in range(letters)]):
        return ("letter",)
    fault = pair_fault("ever", rows, lambda row, other: row[0] == other[0] and row[2] != other[2])
    if fault is None:
        fault = lot_fault(rows)
    if fault is None:
        fault = pair_fault("rise", rows, lambda row, other: lies_lower(row, other) and not rises_to(row, other))
    return choice_fault(letters, rows) if fault is None else fault


def pair_fault(word, rows, is_fault):
    """Return (word, i, k) with the least indexes of rows for which is_fault holds, or None."""
    for index, row in enumerate(rows):
        for other, further in enumerate(rows):
            if is_fault(row, further):
                return (word, index, other)
    return None


def lot_fault(rows):
    """Return ("lot", i) with the first row that has a lot beyond its have or within another lot, or None."""
    for index, (_, _, have, lots) in enumerate(rows):
        for lot in lots:
            if not lies_in(lot, have) or any([lot != wide and lies_in(lot, wide) for wide in lots]):
                return ("lot", index)
    return None


def lies_lower(row, other):
    """Tell whether ever and again of a row lie in those of another one."""
    return lies_in(row[0], other[0]) and lies_in(row[1], other[1])


def rises_to(row, other):
    """Tell whether have, and each lot, of a row lies in have, or some lot, of another one."""
    return lies_in(row[2], other[2]) and all([any([lies_in(lot, wide) for wide in other[3]]) for lot in row[3]])


def choice_fault(letters, rows):
    """Return ("choice", ever) with the least ever that has no nested choice, or None."""
    for ever in sorted({row[0] for row in rows}):
        if Nest(rows, ever).choice(ever, all_letters(letters)) is None:
            return ("choice", ever)
    return None


def are_rows(foreign, letters, rows):
    """Tell whether the rows are those, on lossy roads, of a part with one shown worker."""
    return rows_fault(foreign, letters, rows) is None
