"""Tests of parts of one form, and of parts put in a row [62], [11]."""

import copy
import random
import unittest

from oldletters.borders import rows_of
from oldletters.errors import TooMany, Unlike
from oldletters.joins import first_unlike, is_alike, put_in_row, rows_in_row, stands_for
from tests.part_samples import (
    COPIER, FORMS, LATCHER, ROUND, SILENT, all_pairs, lively_parts, lot_lies_in, plain_row, random_part, random_parts)
from tests.samples import ROADS, check_new

ONE, TWO, BOTH = ((0,),), ((1,),), ((0, 1),)
ASKING = (is_alike, first_unlike, stands_for)
# It has two states with one letter, but does what COPIER does.
SLOW = ("get", 0, (("go", 0), ("go", 2)))
COPIER_TOO = ((2,), ((2, (0, 1, 1), (SLOW, SLOW, SLOW)),), (0,))
# It copies, or shows 0 all the same, for as long as it likes.
OWN = ("get", 0, (("go", 0), ("get", 1, (("go", 1), ("go", 0)))))


def paired_parts(many):
    """Return pairs of parts of one form; most of them have a code or a letter alone that is not the same."""
    rng = random.Random(many)
    pairs = []
    while len(pairs) < many:
        foreign = FORMS[len(pairs) % len(FORMS)]
        own = rng.randint(1, 2)
        one = random_part(rng, foreign, own, rng.randint(1, own))
        at = rng.randrange(own)
        letters, shown, codes = one[1][at]
        state = rng.randrange(len(shown))
        other = random_part(rng, foreign, 1, 1)[1][0]
        if rng.random() < 0.5:
            shown = shown[:state] + (rng.randrange(letters),) + shown[state + 1:]
        elif other[0] == letters:
            shown, codes = other[1:]
        worker = (letters, shown, codes)
        workers = one[1][:at] + (worker,) + one[1][at + 1:]
        if all(code_is_in(code, foreign, workers) for code in codes):
            pairs.append((one, (foreign, workers, one[2])))
    return pairs


def code_is_in(code, foreign, workers):
    """Tell whether the code asks workers that there are, with so many letters."""
    many = list(foreign) + [worker[0] for worker in workers]
    return code[0] == "go" or (code[1] < len(many) and len(code[2]) == many[code[1]]
                               and all(code_is_in(part, foreign, workers) for part in code[2]))


def plain_stands(one, other, road):
    """Tell by plain rows whether one stands for other."""
    for ever, again in all_pairs(one[0]):
        row, wide = plain_row(one, road, ever, again), plain_row(other, road, ever, again)
        if not lot_lies_in(row[2], wide[2]):
            return False
        for lot in row[3]:
            if not (lot in wide[3] if road == "just" else any(lot_lies_in(lot, more) for more in wide[3])):
                return False
    return True


class Joins(unittest.TestCase):
    def test_unlike_comes_before_too_many(self):
        large = ((4,), ROUND[1], (0,))
        two_shown = ((2,), ROUND[1] * 2, (0, 1))
        three = ((2,), ((3, (0,), (("go", 0),)),), (0,))
        for call in ASKING:
            for road in ROADS:
                for one, other in ((COPIER, ROUND), (COPIER, two_shown), (COPIER, three), (large, COPIER),
                                   (large, ((4,), three[1], (0,))), (((2, 2), ROUND[1], (0,)), COPIER)):
                    for pair in ((one, other), (other, one)):
                        with self.assertRaises(Unlike):
                            call(*pair, road)
                with self.assertRaises(TooMany) as caught:
                    call(large, large, road)
                self.assertEqual(caught.exception.most, 30)
        # The hidden workers do not matter.
        hidden = ((2,), COPIER[1] + three[1], (0,))
        self.assertIs(is_alike(COPIER, hidden, "just"), True)

    def test_by_hand(self):
        for road in ROADS:
            for one in (COPIER, COPIER_TOO):
                self.assertIs(is_alike(one, COPIER, road), True)
                self.assertIsNone(first_unlike(COPIER, one, road))
                self.assertIs(stands_for(one, COPIER_TOO, road), True)
            # The letters are the same, the lots are not.
            self.assertEqual(rows_of(COPIER, road)[1][2], rows_of(LATCHER, road)[1][2])
            self.assertIs(is_alike(COPIER, LATCHER, road), False)
            self.assertEqual(first_unlike(COPIER, LATCHER, road), (BOTH, ONE))
            # It does not show letter 1 where the others do, but it shows 0 again and again where they need not.
            self.assertEqual(first_unlike(SILENT, LATCHER, road), (BOTH, ONE))
            self.assertIs(stands_for(LATCHER, SILENT, road), False)
            self.assertIs(stands_for(LATCHER, COPIER, road), False)
        self.assertIs(stands_for(COPIER, LATCHER, "lossy"), False)
        # Ever 0 and 1, again 1: the copier shows 1 alone.
        self.assertIs(stands_for(SILENT, COPIER, "lossy"), False)
        doubter = ((2,), ((2, (0, 1), (OWN, OWN)),), (0,))
        self.assertIs(stands_for(SILENT, doubter, "just"), False)
        both = ((2,), ((2, (0, 1, 0), (("get", 0, (("go", 0), ("go", 1))), ("go", 2), ("go", 0))),), (0,))
        self.assertIs(stands_for(COPIER, both, "lossy"), True)
        self.assertIs(stands_for(both, COPIER, "lossy"), False)
        self.assertIs(stands_for(COPIER, both, "just"), False)

    def test_letters_alone_that_differ(self):
        # What is shown on the way is not shown again.
        way = ((2,), ((3, (0, 2, 1), (("go", 1), ("go", 2), ("go", 2))),), (0,))
        straight = ((2,), ((3, (0, 1), (("go", 1), ("go", 1))),), (0,))
        for road in ROADS:
            self.assertEqual([row[3] for row in rows_of(way, road)], [row[3] for row in rows_of(straight, road)])
            self.assertIs(is_alike(way, straight, road), False)
            self.assertEqual(first_unlike(straight, way, road), (ONE, ONE))
            self.assertIs(stands_for(straight, way, road), True)
            self.assertIs(stands_for(way, straight, road), False)

    def test_drawn_parts(self):
        seen = {}
        for one, other in paired_parts(240):
            for road in ROADS:
                pairs = all_pairs(one[0])
                unlike = [pair for pair in pairs if plain_row(one, road, *pair) != plain_row(other, road, *pair)]
                self.assertEqual(first_unlike(one, other, road), unlike[0] if unlike else None)
                self.assertIs(is_alike(one, other, road), not unlike)
                for left, right in ((one, other), (other, one)):
                    stands = plain_stands(left, right, road)
                    self.assertIs(stands_for(left, right, road), stands)
                    kind = (road, bool(unlike), stands)
                    seen[kind] = seen.get(kind, 0) + 1
        self.assertEqual(len(seen), 6, seen)
        self.assertGreater(min(seen.values()), 8, seen)

    def test_put_in_row_by_hand(self):
        row = put_in_row(LATCHER, COPIER)
        look = ("get", 1, (("go", 0), ("go", 1)))
        self.assertEqual(row, ((2,), LATCHER[1] + ((2, (0, 1), (look, look)),), (1,)))
        two = ((3,), ((1, (0,), (("go", 0),)), ) + ROUND[1] * 2, (0, 2))
        asking = ((1, 2), ((2, (1,), (("get", 1, (("get", 0, (("go", 0),)), ("get", 2, (("go", 0), ("go", 0))))),)),
                           (1, (0,), (("get", 2, (("go", 0), ("go", 0))),))), (0, 1))
        self.assertEqual(put_in_row(two, asking), ((3,), two[1] + (
            (2, (1,), (("get", 3, (("get", 1, (("go", 0),)), ("get", 4, (("go", 0), ("go", 0))))),)),
            (1, (0,), (("get", 4, (("go", 0), ("go", 0))),))), (3, 4)))
        for one, other in ((ROUND, two), (two, COPIER), (COPIER, ROUND), (two, ((2, 1), asking[1], (0,)))):
            with self.assertRaises(Unlike):
                put_in_row(one, other)

    def test_rows_in_row_of_drawn_parts(self):
        rng = random.Random(62)
        several = 0
        for one in random_parts(90, own=2, shown=2) + lively_parts(50, own=2, shown=2):
            letters = tuple(one[1][at][0] for at in one[2])
            others = [random_part(rng, letters, rng.randint(1, 2), 1) for _ in range(10)]
            # The one with most lots in its rows.
            other = max(others, key=lambda part: sum(len(row[3]) for road in ROADS for row in rows_of(part, road)))
            row = put_in_row(one, other)
            for road in ROADS:
                some, others = rows_of(one, road), rows_of(other, road)
                kept = copy.deepcopy((some, others))
                found = rows_in_row(some, others, road)
                self.assertEqual((some, others), kept)
                self.assertEqual(found, rows_of(row, road))
                self.assertEqual(found, [plain_row(row, road, *pair) for pair in all_pairs(row[0])])
                several += any(len(further[3]) > 1 for further in found)
        self.assertGreater(several, 20)

    def test_lots_of_one_that_come_to_the_same_in_a_row(self):
        # Beside each of the two lots of LATCHER the second one shows less than beside both.
        for road in ROADS:
            for other in (SILENT, COPIER, LATCHER):
                row = put_in_row(LATCHER, other)
                self.assertEqual(rows_in_row(rows_of(LATCHER, road), rows_of(other, road), road), rows_of(row, road))
        chain = put_in_row(put_in_row(LATCHER, COPIER), LATCHER)
        self.assertEqual(rows_of(chain, "lossy")[1], (BOTH, ONE, BOTH, (ONE, TWO)))

    def test_what_is_returned_is_new(self):
        for road in ROADS:
            some, others = rows_of(LATCHER, road), rows_of(COPIER, road)
            check_new(self, lambda: rows_in_row(some, others, road))
            check_new(self, lambda: first_unlike(LATCHER, COPIER, road))


if __name__ == "__main__":
    unittest.main()
