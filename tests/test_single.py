"""Tests of the one worker that stands for a part on lossy roads [66], [12]."""

import copy
import itertools
import random
import unittest

from oldletters.borders import rows_of
from oldletters.errors import ManyShown, NoRows, TooMany
from oldletters.forms import is_part
from oldletters.joins import is_alike, put_in_row, rows_in_row, stands_for
from oldletters.nested import rows_fault
from oldletters.parting import border_ends, parting_surroundings
from oldletters.parts import joined_net
from oldletters.single import one_for, one_worker
from oldletters.tables import table_of
from tests.part_samples import (
    COPIER, FORMS, LATCHER, ROUND, SILENT, all_pairs, drawn_rows, lively_parts, random_around, random_parts)
from tests.samples import ROADS, check_new

ONE, TWO, BOTH = ((0,),), ((1,),), ((0, 1),)


def rows_with_all(foreign, letters, size):
    """Return the rows in which all letters are shown, and all lots of so many letters can be shown again."""
    lots = tuple((some,) for some in itertools.combinations(range(letters), size))
    return [(ever, again, (tuple(range(letters)),), lots) for ever, again in all_pairs(foreign)]


class Single(unittest.TestCase):
    def check_one_worker(self, foreign, letters, rows):
        """Check the part that one_worker returns, and return it."""
        kept = copy.deepcopy(rows)
        part = one_worker(foreign, letters, rows)
        self.assertTrue(is_part(part))
        self.assertEqual((part[0], len(part[1]), part[2]), (foreign, 1, (0,)))
        self.assertEqual(part[1][0][0], letters)
        self.assertLessEqual(len(part[1][0][1]), 600)
        self.assertEqual(rows_of(part, "lossy"), rows)
        self.assertEqual(rows, kept)
        self.assertEqual(one_worker(foreign, letters, rows), part)
        return part

    def test_parts_by_hand(self):
        for part in (COPIER, LATCHER, SILENT, ROUND):
            one = one_for(part)
            self.assertIs(is_alike(part, one, "lossy"), True)
            self.assertEqual(one, self.check_one_worker(part[0], 2, rows_of(part, "lossy")))
            self.assertIsNone(parting_surroundings(one, part, "lossy"))

    def test_drawn_parts(self):
        parts = random_parts(120, shown=1, letters=3) + lively_parts(90, shown=1, letters=3)
        parts += random_parts(36, shown=1, states=4, letters=4)
        self.assertEqual({part[0] for part in parts}, set(FORMS))
        for part in parts:
            letters = part[1][part[2][0]][0]
            one = self.check_one_worker(part[0], letters, rows_of(part, "lossy"))
            self.assertEqual(one_for(part), one)
            self.assertIs(is_alike(part, one, "lossy"), True)
            self.assertIs(stands_for(one, part, "lossy") and stands_for(part, one, "lossy"), True)

    def test_rows_by_hand_without_a_fault(self):
        rng = random.Random(69)
        right = 0
        for index in range(300):
            foreign = FORMS[index % len(FORMS)]
            letters = rng.randint(1, 4)
            rows = drawn_rows(rng, foreign, letters)
            fault = rows_fault(foreign, letters, rows)
            if fault is None:
                right += 1
                self.check_one_worker(foreign, letters, rows)
            else:
                with self.assertRaises(NoRows) as caught:
                    one_worker(foreign, letters, rows)
                self.assertEqual(caught.exception.fault, fault)
        self.assertGreater(right, 200)
        self.assertGreater(300 - right, 5)

    def test_as_many_lots_and_letters_as_can_be(self):
        for foreign in FORMS:
            for letters in (1, 2, 3, 4):
                for size in range(1, letters + 1):
                    self.check_one_worker(foreign, letters, rows_with_all(foreign, letters, size))

    def test_faults(self):
        rows = rows_of(COPIER, "lossy")
        wrong = rows[:2] + [(BOTH, BOTH, BOTH, (ONE, TWO))] + rows[3:]
        for other, fault in (
                (wrong, ("choice", BOTH)), (rows[:4] + [(TWO, TWO, TWO, (TWO,))], ("letter",)),
                (rows[:1] + [(BOTH, ONE, ONE, (ONE,))] + rows[2:], ("ever", 1, 2)),
                (rows[:1] + [(BOTH, ONE, BOTH, (ONE, BOTH))] + rows[2:], ("lot", 1)),
                (rows[:1] + [(BOTH, ONE, BOTH, (TWO,))] + rows[2:], ("rise", 0, 1))):
            with self.assertRaises(NoRows) as caught:
                one_worker((2,), 2, other)
            self.assertEqual(caught.exception.fault, fault)
            self.assertEqual(rows_fault((2,), 2, other), fault)

    def test_errors_of_one_for_in_order(self):
        large = ((3, 2), ROUND[1] * 2, (0, 1))
        with self.assertRaises(TooMany) as caught:
            one_for(large)
        self.assertEqual(caught.exception.most, 30)
        for shown, many in (((0, 1), 2), ((0, 1, 2), 3)):
            with self.assertRaises(ManyShown) as caught:
                one_for(((2, 2), ROUND[1] * 3, shown))
            self.assertEqual(caught.exception.many, many)

    def test_exchanged_in_surroundings(self):
        rng = random.Random(70)
        for part in lively_parts(40, own=2, shown=1) + random_parts(30, own=2, shown=1):
            one = one_for(part)
            for _ in range(3):
                around = random_around(rng, part, rng.randint(0, 1))
                self.assertEqual(border_ends(part, around, "lossy"), border_ends(one, around, "lossy"))
                # Each worker of the surroundings can ever be at the same states.
                many = len(around[0])
                self.assertEqual(table_of(joined_net(part, around))[:many], table_of(joined_net(one, around))[:many])

    def test_returned_parts_may_be_passed_in(self):
        for foreign, part in (((2,), LATCHER), ((2, 2), ((2, 2), LATCHER[1], (0,)))):
            large = one_worker(foreign, 4, rows_with_all(foreign, 4, 2))
            one = one_for(large)
            self.assertIs(is_alike(large, one, "lossy"), True)
            for road in ROADS:
                self.assertEqual(len(rows_of(large, road)), len(all_pairs(foreign)))
                self.assertIs(is_alike(large, large, road), True)
                self.assertIs(stands_for(large, large, road), True)
                self.assertIsNone(parting_surroundings(large, large, road))
                self.assertEqual(len(border_ends(large, (((2, (0, 1), (("go", 1), ("go", 0))),) * len(foreign), ()),
                                                 road)), 1)
            small = one_for(part)
            for road in ROADS:
                row = put_in_row(small, COPIER)
                self.assertEqual(rows_in_row(rows_of(small, road), rows_of(COPIER, road), road), rows_of(row, road))

    def test_what_is_returned_is_new(self):
        check_new(self, lambda: one_for(LATCHER))
        rows = rows_of(LATCHER, "lossy")
        check_new(self, lambda: one_worker((2,), 2, rows))


if __name__ == "__main__":
    unittest.main()
