"""Tests of what parts show, whatever their surroundings are [61]."""

import time
import unittest

from oldletters.borders import row_of, rows_of
from oldletters.errors import TooMany
from tests.part_samples import (
    COPIER, COPY, FORMS, LATCHER, ROUND, SILENT, all_pairs, lively_parts, lot_lies_in, plain_row, random_parts)
from tests.samples import ROADS, check_new

ONE, TWO, BOTH = ((0,),), ((1,),), ((0, 1),)


class Borders(unittest.TestCase):
    def test_example(self):
        self.assertEqual(row_of(COPIER, "lossy", BOTH, ONE), (BOTH, ONE, BOTH, (ONE,)))

    def test_rows_by_hand(self):
        self.assertEqual(rows_of(COPIER, "lossy"), [
            (ONE, ONE, ONE, (ONE,)), (BOTH, ONE, BOTH, (ONE,)), (BOTH, BOTH, BOTH, (BOTH,)), (BOTH, TWO, BOTH, (TWO,)),
            (TWO, TWO, BOTH, (TWO,))])
        # On lossy roads it can stay where it is for ever; what it can do it must do on just ones.
        self.assertEqual(rows_of(LATCHER, "lossy"), [
            (ONE, ONE, ONE, (ONE,)), (BOTH, ONE, BOTH, (ONE, TWO)), (BOTH, BOTH, BOTH, (ONE, TWO)),
            (BOTH, TWO, BOTH, (TWO,)), (TWO, TWO, BOTH, (TWO,))])
        self.assertEqual(rows_of(LATCHER, "just")[2], (BOTH, BOTH, BOTH, (TWO,)))
        self.assertEqual(rows_of(LATCHER, "just")[1], (BOTH, ONE, BOTH, (ONE, TWO)))
        self.assertEqual([row[2:] for row in rows_of(SILENT, "just")], [(ONE, (ONE,))] * 5)
        for road in ROADS:
            self.assertEqual(rows_of(ROUND, road), [((), (), BOTH, (BOTH,))])

    def test_lots_in_no_other_one_on_lossy_roads_alone(self):
        # By letter 1 it goes round through two states that show both letters, otherwise it stays at one.
        fork = ("get", 0, (("go", 1), ("go", 2)))
        part = ((2,), ((3, (0, 0, 0, 1), (fork, ("go", 1), ("go", 3), ("go", 2))),), (0,))
        self.assertEqual(row_of(part, "lossy", BOTH, ONE)[3], (((0, 1),),))
        self.assertEqual(row_of(part, "just", BOTH, ONE)[3], (((0,),), ((0, 1),)))

    def test_table_for_ever_larger_than_the_end(self):
        # It goes to 1 by a letter that is then shown no more, and from there on by the letter that is.
        look = ("get", 0, (("go", 1), ("go", 2)))
        part = ((2,), ((3, (0, 1, 2), (("get", 0, (("go", 0), ("go", 1))), look, look)),), (0,))
        self.assertEqual(row_of(part, "just", BOTH, ONE), (BOTH, ONE, ((0, 1, 2),), (((0,),), ((1,),))))
        self.assertEqual(row_of(part, "just", ONE, ONE), (ONE, ONE, ONE, (ONE,)))

    def check_rows(self, part):
        for road in ROADS:
            rows = rows_of(part, road)
            self.assertEqual(rows, [plain_row(part, road, ever, again) for ever, again in all_pairs(part[0])], part)
            self.assertEqual(rows, [row_of(part, road, row[0], row[1]) for row in rows])
            many = 1
            for letters in part[0]:
                many *= 3 ** letters - 2 ** letters
            self.assertEqual((len(rows), sorted(rows)), (many, rows))
            for row in rows:
                self.assertTrue(row[3] and all(lot_lies_in(lot, row[2]) for lot in row[3]))

    def test_drawn_parts(self):
        parts = random_parts(60) + random_parts(42, own=2, states=4, letters=3) + lively_parts(60, own=2, states=4, letters=3)
        for part in parts:
            self.check_rows(part)
        self.assertEqual({part[0] for part in parts}, set(FORMS))
        self.assertEqual({len(part[1]) for part in parts}, {1, 2, 3})
        several = [row for part in parts for road in ROADS for row in rows_of(part, road) if len(row[3]) > 1]
        self.assertGreater(len(several), 100)

    def test_too_many_rows(self):
        for foreign in ((4,), (3, 2), (2, 3), (2, 2, 2), (5,)):
            for road in ROADS:
                with self.assertRaises(TooMany) as caught:
                    rows_of((foreign, COPIER[1], (0,)) if foreign[0] == 2 else (foreign, ROUND[1], (0,)), road)
                self.assertEqual(caught.exception.most, 30)
        part = ((3, 2), ((2, (0, 1), (("get", 1, (("go", 0), ("go", 1))), ("go", 0))),), (0,))
        ever = ((0, 1, 2), (0, 1))
        self.assertEqual(row_of(part, "lossy", ever, ever), (ever, ever, BOTH, (BOTH,)))
        for foreign, many in (((), 1), ((1, 1), 1), ((2, 2), 25), ((3, 1), 19), ((2, 1, 2), 25)):
            self.assertEqual(len(rows_of((foreign, ((1, (0,), (("go", 0),)),), (0,)), "lossy")), many)

    def test_many_states_in_reasonable_time(self):
        # 600 states in one circle, with a way to a state of rest from each.
        codes = [("get", 0, (("go", (at + 1) % 600), ("get", 1, (("go", at), ("go", 600))))) for at in range(600)]
        part = ((2, 2), ((4, tuple(at % 4 for at in range(600)) + (3,), tuple(codes) + (("go", 600),)),), (0,))
        began = time.time()
        for road in ROADS:
            rows = rows_of(part, road)
            self.assertEqual(rows[0][2:], (((0, 1, 2, 3),), (((0, 1, 2, 3),),)))
        self.assertEqual(rows[-1][2:], (((0, 3),), (((3,),),)))
        self.assertLess(time.time() - began, 30)

    def test_what_is_returned_is_new(self):
        for road in ROADS:
            check_new(self, lambda: rows_of(LATCHER, road))
            check_new(self, lambda: row_of(((2,), LATCHER[1], (0,)), road, BOTH, ONE))
        self.assertEqual(COPIER, ((2,), ((2, (0, 1), (COPY, COPY)),), (0,)))


if __name__ == "__main__":
    unittest.main()
