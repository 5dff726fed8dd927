"""Tests of which rows are those of a part [65], [12]."""

import copy
import itertools
import random
import unittest

from oldletters.borders import rows_of
from oldletters.nested import (
    are_rows, choice_for, is_choice_for, is_refusal_for, is_rows, refusal_for, rows_fault)
from tests.part_samples import FORMS, all_pairs, drawn_rows, lively_parts, lot_lies_in, random_parts
from tests.samples import doubtful_kinds, every_entry, exchanged, odd_values, spoil, wrong_kinds

ONE, TWO, BOTH = ((0,),), ((1,),), ((0, 1),)
ROWS = [(ONE, ONE, ONE, (ONE,)), (BOTH, ONE, BOTH, (ONE,)), (BOTH, BOTH, BOTH, (BOTH,)), (BOTH, TWO, BOTH, (TWO,)),
        (TWO, TWO, BOTH, (TWO,))]
CHOICE = ("less", (0, 1), ((0, 0, ("last", (1,), 1)), (0, 1, ("last", (0,), 0))))
REFUSAL = ((0, 0, (None,)), (0, 1, (None,)))


def with_row(rows, at, row):
    """Return the rows with another one."""
    return rows[:at] + [row] + rows[at + 1:]


REFUSED = with_row(ROWS, 2, (BOTH, BOTH, BOTH, (ONE, TWO)))


def moves(again):
    """Return all (worker, letter, again without this letter) of entries with several letters."""
    return [(at, letter, again[:at] + (tuple(one for one in entry if one != letter),) + again[at + 1:])
            for at, entry in enumerate(again) if len(entry) > 1 for letter in entry]


def all_choices(lots, again, free):
    """Return all choices of again and free; lots has those of the row of each again."""
    found = []
    for (lot,) in lots[again]:
        inner = tuple(letter for letter in lot if letter in free)
        if not inner:
            continue
        if not moves(again):
            found += [("last", lot, letter) for letter in inner]
            continue
        below = [[(at, letter, choice) for choice in all_choices(lots, less, inner)] for at, letter, less in moves(again)]
        found += [("less", lot, entries) for entries in itertools.product(*below)]
    return found


def all_refusals(lots, again, free):
    """Return all refusals of again and free."""
    rows = []
    for (lot,) in lots[again]:
        inner = tuple(letter for letter in lot if letter in free)
        rows.append([(at, letter, refusal) for at, letter, less in moves(again)
                     for refusal in all_refusals(lots, less, inner)] if inner else [None])
    return list(itertools.product(*rows))


def lots_by_again(rows, ever):
    return {again: lots for one, again, _, lots in rows if one == ever}


def has_choice(lots, again, free):
    """Tell whether there is a choice of again and free."""
    for (lot,) in lots[again]:
        inner = tuple(letter for letter in lot if letter in free)
        if inner and all(has_choice(lots, less, inner) for _, _, less in moves(again)):
            return True
    return False


def plain_fault(foreign, letters, rows):
    """Return the first fault, as the document tells them one by one."""
    numbers = range(len(rows))
    if not set(range(letters)).intersection(*[row[2][0] for row in rows]):
        return ("letter",)
    for i, k in itertools.product(numbers, numbers):
        if rows[i][0] == rows[k][0] and rows[i][2] != rows[k][2]:
            return ("ever", i, k)
    for i in numbers:
        lots = rows[i][3]
        if any(not lot_lies_in(lot, rows[i][2]) or any(lot != more and lot_lies_in(lot, more) for more in lots)
               for lot in lots):
            return ("lot", i)
    for i, k in itertools.product(numbers, numbers):
        if lot_lies_in(rows[i][0], rows[k][0]) and lot_lies_in(rows[i][1], rows[k][1]):
            if not lot_lies_in(rows[i][2], rows[k][2]) or not all(
                    any(lot_lies_in(lot, more) for more in rows[k][3]) for lot in rows[i][3]):
                return ("rise", i, k)
    for ever in sorted({row[0] for row in rows}):
        if not has_choice(lots_by_again(rows, ever), ever, tuple(range(letters))):
            return ("choice", ever)
    return None


class Nested(unittest.TestCase):
    def test_example(self):
        self.assertIsNone(rows_fault((2,), 2, ROWS))
        self.assertEqual(choice_for((2,), 2, ROWS, BOTH), CHOICE)
        self.assertIsNone(refusal_for((2,), 2, ROWS, BOTH))
        self.assertEqual(rows_fault((2,), 2, REFUSED), ("choice", BOTH))
        self.assertEqual(refusal_for((2,), 2, REFUSED, BOTH), REFUSAL)
        self.assertIsNone(choice_for((2,), 2, REFUSED, BOTH))
        for rows, right in ((ROWS, True), (REFUSED, False)):
            self.assertIs(are_rows((2,), 2, rows), right)
            self.assertIs(is_rows((2,), 2, rows), True)
            self.assertIs(is_choice_for((2,), 2, rows, BOTH, CHOICE), right)
            self.assertIs(is_refusal_for((2,), 2, rows, BOTH, REFUSAL), not right)

    def test_is_rows_of_rows(self):
        for part in random_parts(30, own=2, shown=1, letters=3):
            letters = part[1][part[2][0]][0]
            for road in ("lossy", "just"):
                rows = rows_of(part, road)
                self.assertIs(is_rows(part[0], letters, rows), True)
                self.assertIs(is_rows(part[0], letters, tuple(rows)), False)
                self.assertIs(is_rows(part[0], letters, rows[::-1]), len(rows) == 1)
                self.assertIs(is_rows(part[0], letters, rows[1:]), False)
                self.assertIs(is_rows(part[0], letters, rows + rows[-1:]), False)
                self.assertIs(is_rows(part[0] + (1,), letters, rows), False)
                self.assertIs(is_rows(part[0] + (2,), letters, rows), False)
        self.assertIs(is_rows((2,), 1, ROWS), False)
        self.assertIs(is_rows((2,), 3, ROWS), True)
        self.assertIs(is_rows((3,), 2, ROWS), False)
        # They need not be the rows of any part.
        self.assertIs(is_rows((2,), 2, with_row(ROWS, 0, (ONE, ONE, TWO, (BOTH, ONE))[:3] + ((ONE, BOTH),))), True)

    def test_is_rows_of_any_value(self):
        for thing in odd_values() + [None, [], (), [()], [None] * 5, ROWS[:4] + [None], dict(enumerate(ROWS))]:
            for foreign in ((), (1,), (2,), (2, 2)):
                self.assertIs(is_rows(foreign, 2, thing), False)
        for rows in (ROWS, rows_of(random_parts(6, shown=1)[5], "lossy")):
            foreign = (2,) * len(rows[0][0])
            for other in exchanged(rows, wrong_kinds):
                self.assertIs(is_rows(foreign, 2, other), False, other)

    def test_is_rows_of_rows_with_one_part_changed(self):
        def is_lot(thing, letters):
            return (isinstance(thing, tuple) and len(thing) == 1 and isinstance(thing[0], tuple)
                    and all(type(letter) is int for letter in thing[0]) and thing[0] in every_entry(letters))

        def is_right(thing):
            return (isinstance(thing, list) and len(thing) == 5 and all(
                isinstance(row, tuple) and len(row) == 4 and is_lot(row[0], 2) and is_lot(row[1], 2)
                and is_lot(row[2], 3) and isinstance(row[3], tuple) and row[3]
                and all(is_lot(lot, 3) for lot in row[3]) and list(row[3]) == sorted(set(row[3]))
                for row in thing) and [row[:2] for row in thing] == all_pairs((2,)))

        right = 0
        for rows in (ROWS, REFUSED):
            for other in exchanged(rows, doubtful_kinds):
                self.assertIs(is_rows((2,), 3, other), is_right(other), other)
                right += is_right(other)
        self.assertGreater(right, 10)

    def test_choices_and_refusals_of_drawn_rows(self):
        rng = random.Random(65)
        seen = {"choice": 0, "refusal": 0}
        for index in range(300):
            foreign = FORMS[2 + index % 3] if index > 30 else FORMS[index % 2]
            letters = rng.randint(1, 3)
            rows = drawn_rows(rng, foreign, letters)
            kept = copy.deepcopy(rows)
            self.assertIs(is_rows(foreign, letters, rows), True)
            for ever in sorted({row[0] for row in rows}):
                lots = lots_by_again(rows, ever)
                rights = all_choices(lots, ever, tuple(range(letters)))
                refusals = all_refusals(lots, ever, tuple(range(letters)))
                self.assertEqual(bool(rights), not refusals)
                choice = choice_for(foreign, letters, rows, ever)
                refusal = refusal_for(foreign, letters, rows, ever)
                if rights:
                    self.assertIn(choice, rights)
                    self.assertIsNone(refusal)
                else:
                    self.assertIn(refusal, refusals)
                    self.assertIsNone(choice)
                seen["choice" if rights else "refusal"] += 1
                self.assertEqual(choice_for(foreign, letters, rows, ever), choice)
                self.assertEqual(refusal_for(foreign, letters, rows, ever), refusal)
                for thing in rng.sample(rights, min(len(rights), 10)):
                    self.assertIs(is_choice_for(foreign, letters, rows, ever, thing), True)
                    self.assertIs(is_refusal_for(foreign, letters, rows, ever, thing), False)
                for thing in rng.sample(refusals, min(len(refusals), 10)):
                    self.assertIs(is_refusal_for(foreign, letters, rows, ever, thing), True)
                    self.assertIs(is_choice_for(foreign, letters, rows, ever, thing), False)
            self.assertEqual(rows, kept)
        self.assertGreater(min(seen.values()), 30, seen)

    def test_two_workers_with_two_letters(self):
        rng = random.Random(66)
        seen = {True: 0, False: 0}
        for _ in range(40):
            rows = drawn_rows(rng, (2, 2), 3)
            for ever in sorted({row[0] for row in rows}):
                right = has_choice(lots_by_again(rows, ever), ever, (0, 1, 2))
                choice = choice_for((2, 2), 3, rows, ever)
                refusal = refusal_for((2, 2), 3, rows, ever)
                self.assertEqual((choice is None, refusal is None), (not right, right))
                self.assertIs(is_choice_for((2, 2), 3, rows, ever, choice), right)
                self.assertIs(is_refusal_for((2, 2), 3, rows, ever, refusal), not right)
                seen[right] += 1
        self.assertGreater(min(seen.values()), 10, seen)

    def test_choices_and_refusals_with_one_part_changed(self):
        rng = random.Random(67)
        checked = {"choice": 0, "refusal": 0}
        for index in range(30):
            foreign = FORMS[1:4][index % 3]
            rows = drawn_rows(rng, foreign, 2)
            for ever in sorted({row[0] for row in rows}):
                lots = lots_by_again(rows, ever)
                for word, told, rights, thing in (
                        ("choice", is_choice_for, all_choices(lots, ever, (0, 1)), choice_for(foreign, 2, rows, ever)),
                        ("refusal", is_refusal_for, all_refusals(lots, ever, (0, 1)),
                         refusal_for(foreign, 2, rows, ever))):
                    if thing is None:
                        continue
                    reprs = {repr(one) for one in rights}
                    for other in exchanged(thing, wrong_kinds) + exchanged(thing, doubtful_kinds):
                        self.assertIs(told(foreign, 2, rows, ever, other), repr(other) in reprs, (rows, ever, other))
                        checked[word] += 1
        self.assertGreater(min(checked.values()), 200, checked)

    def test_choices_and_refusals_of_any_value(self):
        for rows in (ROWS, REFUSED):
            for ever in (ONE, BOTH, TWO):
                for thing in odd_values() + [("last",), ("last", (0,)), ("last", (0,), 0, 0), ("less", (0, 1), ()),
                                             ("less", (0, 1), None), (None,), ((0, 0, None),), CHOICE[:2], [CHOICE]]:
                    self.assertIs(is_choice_for((2,), 2, rows, ever, thing), False)
                    self.assertIs(is_refusal_for((2,), 2, rows, ever, thing), False)
        # Here a refusal is a tuple with a None for each lot, where no letter is free.
        self.assertIs(is_refusal_for((2,), 2, REFUSED, BOTH, ((0, 1, (None,)), (0, 1, (None,)))), False)
        self.assertIs(is_choice_for((2,), 2, ROWS, ONE, ("last", (0,), 0)), True)
        self.assertIs(is_choice_for((2,), 2, ROWS, ONE, ("last", (0,), False)), False)
        self.assertIs(is_choice_for((2,), 2, ROWS, ONE, ("last", (False,), 0)), False)
        self.assertIs(is_choice_for((2,), 2, ROWS, ONE, ("less", (0,), ())), False)

    def test_each_fault(self):
        narrow = [(ever, again, ONE if ever != BOTH else BOTH, lots) for ever, again, _, lots in ROWS]
        for rows, fault in (
                # Another fault further on does not matter.
                (with_row(with_row(ROWS, 0, (ONE, ONE, TWO, (ONE,))), 4, (TWO, TWO, ONE, (ONE, BOTH))), ("letter",)),
                (with_row(with_row(ROWS, 2, (BOTH, BOTH, ONE, (BOTH,))), 0, (ONE, ONE, ONE, (TWO,))), ("ever", 1, 2)),
                (with_row(ROWS, 1, (BOTH, ONE, ONE, (ONE,))), ("ever", 1, 2)),
                (with_row(ROWS, 3, (BOTH, TWO, ONE, (ONE,))), ("ever", 1, 3)),
                (with_row(ROWS, 4, (TWO, TWO, ONE, (TWO,))), ("lot", 4)),
                (with_row(ROWS, 2, (BOTH, BOTH, BOTH, (ONE, BOTH))), ("lot", 2)),
                (with_row(with_row(ROWS, 2, (BOTH, BOTH, BOTH, (ONE, BOTH))), 0, (ONE, ONE, ONE, (TWO,))), ("lot", 0)),
                (with_row(ROWS, 1, (BOTH, ONE, BOTH, (TWO,))), ("rise", 0, 1)),
                (with_row(ROWS, 3, (BOTH, TWO, BOTH, (ONE,))), ("rise", 4, 3)),
                (with_row(ROWS, 2, (BOTH, BOTH, BOTH, (TWO,))), ("rise", 0, 2)),
                (with_row(REFUSED, 3, (BOTH, TWO, BOTH, (ONE,))), ("rise", 4, 3)),
                (narrow[:4] + [(TWO, TWO, ONE, (ONE,))], ("rise", 4, 3)),
                (with_row(REFUSED, 4, (TWO, TWO, BOTH, (ONE,))), ("rise", 4, 3)),
                (REFUSED, ("choice", BOTH))):
            self.assertIs(is_rows((2,), 2, rows), True)
            kept = copy.deepcopy(rows)
            self.assertEqual(rows_fault((2,), 2, rows), fault)
            self.assertEqual(plain_fault((2,), 2, rows), fault)
            self.assertIs(are_rows((2,), 2, rows), False)
            self.assertEqual(rows, kept)

    def test_have_that_does_not_rise(self):
        rows = [(ever, again, ONE if ever == BOTH else have, (ONE,)) for ever, again, have, _ in ROWS]
        self.assertEqual(rows_fault((2,), 2, rows), ("rise", 4, 2))

    def test_faults_of_rows_with_one_part_changed(self):
        rng = random.Random(68)
        seen = {}
        for index in range(150):
            foreign = FORMS[index % len(FORMS)]
            rows = drawn_rows(rng, foreign, 3)
            changed = [rows]
            for _ in range(12):
                at = rng.randrange(len(rows))
                ever, again, have, lots = rows[at]
                if rng.random() < 0.4:
                    have = (rng.choice(every_entry(3)),)
                else:
                    lots = tuple(sorted({(rng.choice(every_entry(3)),) for _ in range(rng.randint(1, 2))}))
                changed.append(with_row(rows, at, (ever, again, have, lots)))
            changed.append([(ever, again, have if ever < rows[-1][0] else (have[0][-1:],), lots)
                            for ever, again, have, lots in rows])
            for other in changed:
                fault = rows_fault(foreign, 3, other)
                self.assertEqual(fault, plain_fault(foreign, 3, other), other)
                self.assertIs(are_rows(foreign, 3, other), fault is None)
                kind = fault and fault[0]
                seen[kind] = seen.get(kind, 0) + 1
        self.assertEqual(len(seen), 6, seen)
        self.assertGreater(min(seen.values()), 10, seen)

    def test_rows_of_drawn_parts_have_no_fault(self):
        parts = random_parts(120, shown=1, letters=3) + lively_parts(60, shown=1, letters=3)
        for part in parts:
            letters = part[1][part[2][0]][0]
            rows = rows_of(part, "lossy")
            self.assertIsNone(rows_fault(part[0], letters, rows), part)
            self.assertIs(are_rows(part[0], letters, rows), True)
            for ever in sorted({row[0] for row in rows}):
                choice = choice_for(part[0], letters, rows, ever)
                self.assertIs(is_choice_for(part[0], letters, rows, ever, choice), True)
                self.assertIsNone(refusal_for(part[0], letters, rows, ever))

    def test_without_foreign_workers(self):
        rows = [((), (), BOTH, (ONE, TWO))]
        self.assertIsNone(rows_fault((), 2, rows))
        self.assertIn(choice_for((), 2, rows, ()), (("last", (0,), 0), ("last", (1,), 1)))
        self.assertIs(is_choice_for((), 2, rows, (), ("last", (1,), 1)), True)
        self.assertEqual(rows_fault((), 2, [((), (), ONE, (TWO,))]), ("lot", 0))

    def test_what_is_passed_in_may_be_changed_later(self):
        rows = copy.deepcopy(ROWS)
        first = choice_for((2,), 2, rows, BOTH)
        spoil(rows)
        self.assertEqual(choice_for((2,), 2, ROWS, BOTH), first)


if __name__ == "__main__":
    unittest.main()
