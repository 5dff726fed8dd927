"""Tests of the surroundings that part two parts, and of ends as surroundings see them [63], [11]."""

import itertools
import random
import unittest

from oldletters.borders import rows_of
from oldletters.ends import is_end
from oldletters.errors import IsSteady, TooMany, Unlike
from oldletters.forms import is_box, is_net
from oldletters.joins import is_alike, stands_for
from oldletters.parting import border_ends, parting_surroundings
from oldletters.parts import joined_net
from tests.part_samples import COPIER, LATCHER, ROUND, SILENT, lively_parts, random_around, random_part, random_parts
from tests.samples import (
    ROADS, all_boxes, check_new, every_entry, plain_ends, plain_held_up, plain_leaves, plain_table, small_nets)

STAY = (1, (0,), (("go", 0),))


def asked_in(code):
    """Return the set of the workers that a code asks."""
    if code[0] == "go":
        return set()
    return {code[1]}.union(*[asked_in(part) for part in code[2]])


def has_end(net, outer, road):
    """Tell whether a net has an end with these first entries, by all boxes of the other workers."""
    table = plain_table(net)
    if not all(set(entry) <= set(wide) for entry, wide in zip(outer, table)):
        return False
    for box in itertools.product(*[[entry for entry in every_entry(len(worker[1])) if set(entry) <= set(wide)]
                                   for worker, wide in list(zip(net[0], table))[len(outer):]]):
        if plain_held_up(net, outer + box) and not (road == "just" and plain_leaves(net, outer + box)):
            return True
    return False


class Parting(unittest.TestCase):
    def check_parted(self, one, other, road):
        """Check what parting_surroundings returns for two parts that are not alike, and return it."""
        around, box, which = parting_surroundings(one, other, road)
        workers, steady = around
        first = len(one[0])
        self.assertEqual((steady, len(workers), len(box)), ((), first + 1, first + 1))
        self.assertEqual(tuple(worker[0] for worker in workers[:first]), one[0])
        for at, worker in enumerate(workers):
            asked = set().union(*[asked_in(code) for code in worker[2]])
            if at < first:
                self.assertEqual(asked, set())
            else:
                self.assertGreaterEqual(min(asked, default=first + 1), first + 1)
            self.assertLessEqual(len(worker[1]), 13)
        nets = [joined_net(part, around) for part in (one, other)]
        for net in nets:
            self.assertTrue(is_net(net) and is_box((workers, ()), box))
        self.assertIs(type(which), int)
        self.assertTrue(has_end(nets[which], box, road), (one, other, road))
        self.assertFalse(has_end(nets[1 - which], box, road), (one, other, road))
        many = 1
        for worker in workers:
            many *= 2 ** len(worker[1]) - 1
        if many <= 512:
            self.assertIn(box, border_ends((one, other)[which], around, road))
            self.assertNotIn(box, border_ends((one, other)[1 - which], around, road))
        return around, box, which, many

    def test_by_hand(self):
        for road in ROADS:
            for one in (COPIER, LATCHER, SILENT):
                self.assertIsNone(parting_surroundings(one, one, road))
                for other in (COPIER, LATCHER, SILENT):
                    if one != other:
                        self.check_parted(one, other, road)
            # SILENT lacks a letter, and has no letter that LATCHER lacks: which is that of LATCHER.
            self.assertEqual(self.check_parted(SILENT, LATCHER, road)[2], 1)
            self.assertEqual(self.check_parted(LATCHER, SILENT, road)[2], 0)

    def test_lots_alone_in_either_direction(self):
        # On lossy roads both of them can be where the copier is, but it cannot stay where they can.
        for road in ROADS:
            self.assertEqual(self.check_parted(COPIER, LATCHER, road)[2], 1)
            self.assertEqual(self.check_parted(LATCHER, COPIER, road)[2], 0)
        # One of them has just the lot of both letters on just roads, the other one that of one as well.
        fork = ("get", 0, (("go", 1), ("go", 2)))
        forked = ((2,), ((2, (0, 1, 0, 1), (fork, ("go", 1), ("go", 3), ("go", 2))),), (0,))
        rounds = ((2,), ((2, (0, 1), (("go", 1), ("go", 0))),), (0,))
        self.assertEqual(self.check_parted(forked, rounds, "lossy")[2], 1)
        self.assertEqual(self.check_parted(rounds, forked, "lossy")[2], 0)
        self.check_parted(forked, rounds, "just")
        self.check_parted(rounds, forked, "just")
        # A lot within a lot of the other one parts them on just roads alone.
        inner = ((2,), ((2, (0, 1, 0), (("get", 0, (("go", 1), ("go", 2))), ("go", 0), ("go", 2))),), (0,))
        more = ((2,), ((2, (0, 1, 0, 0), (("get", 0, (("go", 1), ("go", 2))), ("go", 3), ("go", 2), ("go", 1))),), (0,))
        self.check_parted(inner, more, "just")

    def test_all_letters_of_three_shown_workers(self):
        # The worker behind the foreign ones needs thirteen states: it looks for four letters of each of three.
        ring = (4, (0, 1, 2, 3), tuple(("go", (at + 1) % 4) for at in range(4)))
        rest = (4, (0, 1, 2, 3), (("go", 1), ("go", 2), ("go", 3), ("go", 3)))
        one, other = ((1,), (ring,) * 3, (0, 1, 2)), ((1,), (ring, ring, rest), (0, 1, 2))
        for road in ROADS:
            for pair in ((one, other), (other, one)):
                around, box, which = parting_surroundings(*pair, road)
                self.assertLessEqual(len(around[0][1][1]), 13)
                full = ((0, 1, 2, 3),) * 3
                last = (3,) if pair[which] == other else (0, 1, 2, 3)
                self.assertTrue(is_end(joined_net(pair[which], around), box + full[:2] + (last,), road))
                for entry in every_entry(4):
                    net = joined_net(pair[1 - which], around)
                    self.assertFalse(is_end(net, box + full[:2] + (entry,), road))

    def test_drawn_parts(self):
        rng = random.Random(63)
        seen = {"alike": 0, "small": 0}
        for one in random_parts(50, own=2) + lively_parts(110, own=2):
            other = random_part(rng, one[0], rng.randint(1, 2), 1)
            letters = tuple(one[1][at][0] for at in one[2])
            if rng.random() < 0.5 or letters != (other[1][other[2][0]][0],):
                # The same part, but for one code or letter.
                at = rng.randrange(len(one[1]))
                count, shown, codes = one[1][at]
                state = rng.randrange(len(shown))
                if rng.random() < 0.3:
                    shown = shown[:state] + (rng.randrange(count),) + shown[state + 1:]
                codes = codes[:state] + (("go", rng.randrange(len(shown))),) + codes[state + 1:]
                other = (one[0], one[1][:at] + ((count, shown, codes),) + one[1][at + 1:], one[2])
            for road in ROADS:
                if rows_of(one, road) == rows_of(other, road):
                    self.assertIsNone(parting_surroundings(one, other, road))
                    seen["alike"] += 1
                    continue
                for pair in ((one, other), (other, one)):
                    _, _, which, many = self.check_parted(*pair, road)
                    row = [row for row, more in zip(rows_of(one, road), rows_of(other, road)) if row != more][0]
                    more = [more for more in rows_of(other, road) if more[:2] == row[:2]][0]
                    kind = (road, which, "ever" if row[2] != more[2] else "again")
                    seen[kind] = seen.get(kind, 0) + 1
                    seen["small"] += many <= 512
                    if stands_for(pair[0], pair[1], road):
                        self.assertEqual(which, 1)
        self.assertEqual(len(seen), 10, seen)
        self.assertGreater(min(seen.values()), 10, seen)

    def test_alike_parts_have_the_same_border_ends(self):
        slow = ("get", 0, (("go", 0), ("go", 2)))
        other = ((2,), ((2, (0, 1, 1), (slow, slow, slow)),), (0,))
        rng = random.Random(64)
        for _ in range(30):
            around = random_around(rng, COPIER, rng.randint(0, 2))
            for road in ROADS:
                self.assertEqual(border_ends(COPIER, around, road), border_ends(other, around, road))

    def test_stand_in_has_no_further_ends(self):
        rng = random.Random(65)
        checked = 0
        parts = lively_parts(150, own=1) + random_parts(150, own=1)
        for one in parts:
            other = random_part(rng, one[0], 1, 1)
            if other[1][0][0] != one[1][0][0]:
                continue
            for road in ROADS:
                if stands_for(one, other, road) and not is_alike(one, other, road):
                    checked += 1
                    for _ in range(4):
                        around = random_around(rng, one, rng.randint(0, 1))
                        self.assertLessEqual(set(border_ends(one, around, road)), set(border_ends(other, around, road)))
        self.assertGreater(checked, 10)

    def test_border_ends_of_drawn_parts(self):
        rng = random.Random(66)
        seen = []
        for part in random_parts(90, own=2) + lively_parts(90, own=2):
            around = random_around(rng, part, rng.randint(0, 2 if len(part[0]) < 2 else 1), states=2)
            net = joined_net(part, around)
            many = len(around[0])
            table = plain_table(net)
            boxes = [box for box in all_boxes(net) if all(set(entry) <= set(wide) for entry, wide in zip(box, table))]
            held = [box for box in boxes if plain_held_up(net, box)]
            for road in ROADS:
                ends = [box for box in held if road == "lossy" or not plain_leaves(net, box)]
                found = border_ends(part, around, road)
                self.assertEqual(found, sorted({box[:many] for box in ends}))
                self.assertTrue(all(is_end(net, box, road) for box in ends))
                seen.append(len(found))
        self.assertGreater(len([many for many in seen if many > 1]), 40)

    def test_border_ends_against_runs(self):
        # Parts cut out of small nets; the ends come from all moments of runs.
        for net in small_nets(40):
            if len(net[0]) < 2:
                continue
            last = len(net[0]) - 1
            letters = net[0][last][0]
            worker = (letters, net[0][last][1], net[0][last][2])
            part = (tuple(one[0] for one in net[0][:last]), (worker,), (0,))
            around = (net[0][:last], ())
            self.assertEqual(joined_net(part, around), net)
            for road in ROADS:
                self.assertEqual(border_ends(part, around, road), sorted({box[:last] for box in plain_ends(net, road)}))

    def test_errors_of_border_ends_in_order(self):
        large = (1, (0,) * 10, tuple(("go", at) for at in range(10)))
        for road in ROADS:
            with self.assertRaises(Unlike):
                border_ends(COPIER, ((large, large), (0, 1)), road)
            with self.assertRaises(Unlike):
                border_ends(COPIER, ((), ()), road)
            with self.assertRaises(IsSteady) as caught:
                border_ends(ROUND, ((large, large, large), (1, 2)), road)
            self.assertEqual(caught.exception.worker, 1)
            with self.assertRaises(TooMany) as caught:
                border_ends(ROUND, ((large,), ()), road)
            self.assertEqual(caught.exception.most, 512)

    def test_512_boxes_and_beyond(self):
        # Boxes of all states count, also of states that are never come to: 511, 381 and 441, then 1023, 765, 889 ..
        def resting(states):
            return (1, (0,) * states, tuple(("go", at) for at in range(states)))
        for road in ROADS:
            self.assertEqual(border_ends(ROUND, ((resting(9),), ()), road), [((0,),)])
            self.assertEqual(border_ends(ROUND, ((resting(2), resting(7)), ()), road), [((0,), (0,))])
            self.assertEqual(border_ends(ROUND, ((resting(3), resting(6)), ()), road), [((0,), (0,))])
            for states in ((10,), (2, 8), (3, 7), (4, 6), (2, 3, 5), (1, 10)):
                with self.assertRaises(TooMany):
                    border_ends(ROUND, (tuple(resting(one) for one in states), ()), road)
            self.assertEqual(border_ends(ROUND, ((), ()), road), [()])

    def test_unlike_and_too_many(self):
        large = ((4,), (STAY,), (0,))
        for road in ROADS:
            for other in (ROUND, large, ((2,), (STAY,), (0,)), ((2,), COPIER[1] * 2, (0, 1))):
                for pair in ((COPIER, other), (other, COPIER)):
                    with self.assertRaises(Unlike):
                        parting_surroundings(*pair, road)
            with self.assertRaises(TooMany) as caught:
                parting_surroundings(large, large, road)
            self.assertEqual(caught.exception.most, 30)

    def test_what_is_returned_is_new(self):
        around = (((2, (0, 1), (("get", 1, (("go", 1), ("go", 0))), ("go", 0))),), ())
        for road in ROADS:
            check_new(self, lambda: border_ends(COPIER, around, road))
            check_new(self, lambda: parting_surroundings(COPIER, LATCHER, road))


if __name__ == "__main__":
    unittest.main()
