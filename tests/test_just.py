"""Tests of the closed boxes and of the ends on just roads [50]."""

import random
import unittest

from oldletters import just
from oldletters.errors import TooMany
from oldletters.nets import all_states
from tests.samples import (
    LATCH_NET, STAYS, THREE_NET, all_boxes, check_new, check_steady_first, every_entry, in_box, plain_ends,
    plain_least, plain_leaves, plain_results, plain_shown, plain_table, random_lots, random_net, random_nets,
    small_nets, talking)


class Just(unittest.TestCase):
    def test_example(self):
        net = ((LATCH_NET[0][0], (2, (0, 1), (("go", 1), ("go", 0)))), ())
        self.assertEqual(just.just_ends(net), [((1,), (0, 1))])
        self.assertEqual(just.least_closed(net), [((1,), (0, 1))])

    def test_closed_boxes(self):
        rng = random.Random(50)
        seen = {}
        for net in small_nets(60, steady=True) + [THREE_NET]:
            boxes = all_boxes(net)
            closed = [box for box in boxes if not plain_leaves(net, box)]
            for box in boxes:
                self.assertIs(just.is_closed_box(net, box), box in closed)
                kind = (box in closed, all(0 in entry for entry in box))
                seen[kind] = seen.get(kind, 0) + 1
            for box in rng.sample(boxes, min(len(boxes), 20)):
                around = [one for one in closed if in_box(box, one)]
                self.assertEqual([just.closed_around(net, box)], plain_least(around))
        self.assertEqual(len(seen), 4)
        self.assertGreater(min(seen.values()), 20)

    def test_closed_around_in_larger_nets(self):
        rng = random.Random(51)
        for net in random_nets(60, most_workers=5, most_states=5, most_letters=4, depth=3, steady=True):
            box = random_lots(rng, [len(row[1]) for row in net[0]])
            wide = [set(entry) for entry in box]
            for _ in range(25):
                lots = plain_shown(net, wide)
                wide = [entry.union(*[plain_results(row[2][state], lots) for state in entry])
                        for row, entry in zip(net[0], wide)]
            self.assertEqual(just.closed_around(net, box), tuple(tuple(sorted(entry)) for entry in wide))

    def test_just_ends_against_all_boxes(self):
        many = set()
        for net in small_nets(80) + small_nets(100, steady=True):
            found = just.just_ends(net)
            self.assertIsInstance(found, list)
            self.assertEqual(found, plain_ends(net, "just"))
            self.assertGreaterEqual(len(found), 1)
            many.add((len(found), len(net[1])))
        self.assertGreaterEqual(many, {(1, 0), (2, 0), (3, 0), (1, 1), (2, 1), (1, 2), (2, 2)})

    def test_least_closed(self):
        many = set()
        for net in small_nets(100):
            table = plain_table(net)
            closed = [box for box in all_boxes(net) if in_box(box, table) and not plain_leaves(net, box)]
            found = just.least_closed(net)
            self.assertEqual(found, plain_least(closed))
            ends = just.just_ends(net)
            self.assertLessEqual(set(found), set(ends))
            self.assertTrue(all(any(in_box(least, end) for least in found) for end in ends))
            many.add(len(found))
        self.assertGreaterEqual(many, {1, 2, 3})

    def test_greatest_sizes(self):
        rng = random.Random(52)
        tried = 0
        while tried < 25:
            net = random_net(rng, most_workers=4, most_states=4, most_letters=3, depth=2, steady=True)
            table = plain_table((net[0], ()))
            if len(net[0]) == 4 and sum(len(entry) for entry in table) > 9:
                tried += 1
                try:
                    ends = just.just_ends(net)
                except TooMany:
                    continue
                self.assertGreaterEqual(len(ends), 1)
                for end in ends:
                    self.assertFalse(plain_leaves(net, end))
                if not net[1]:
                    for least in just.least_closed(net):
                        self.assertIn(least, ends)

    def refuses(self, call, net):
        with self.assertRaises(TooMany) as caught:
            call(net)
        self.assertEqual(caught.exception.most, 512)

    def test_many_lots(self):
        # 511 lots: 7 * 73 is none of nets, but one worker with nine letters has them; 3 * 3 * 7 * 7 are 441.
        for net in (((talking(9),), ()), ((talking(2), talking(2), talking(3), talking(3)), ())):
            self.assertEqual(just.just_ends(net), [all_states(net)])
            self.assertEqual(just.least_closed(net), [all_states(net)])
        # 1023 lots, 567 lots, 525 lots.
        for net in (((talking(10),), ()), ((talking(2),) * 4 + (talking(3),), ()),
                    ((talking(4), talking(4), talking(2)), ())):
            self.refuses(just.just_ends, net)
            self.refuses(just.least_closed, net)
            self.refuses(just.just_ends, (net[0], (0,)))
        # Letters that are never shown do not count, nor states that are never come to.
        quiet = (10, tuple(range(10)), (("go", 0),) * 10)
        self.assertEqual(just.just_ends(((quiet,), ())), [((0,),)])
        self.assertEqual(just.just_ends(((quiet,), (0,))), [((0,),)])
        self.assertEqual(just.least_closed(((quiet,), ())), [((0,),)])

    def test_many_ends(self):
        # By old letters of the second worker the first one goes to one of many states, and stays there.
        for many in (512, 513):
            stays = tuple(("go", at) for at in range(1, many + 1))
            talk = (2, (0, 1), (("go", 1), ("go", 1)))
            net = (((1, (0,) * (many + 1), (self.spread(stays),) + stays), talk), ())
            if many == 512:
                self.assertEqual(just.just_ends(net), [((at,), (1,)) for at in range(1, 513)])
            else:
                self.refuses(just.just_ends, net)
            # least_closed counts lots alone.
            self.assertEqual(len(just.least_closed(net)), many)

    def spread(self, codes):
        """Return a code that comes to each of these by some letters of worker 1."""
        if len(codes) == 1:
            return codes[0]
        middle = len(codes) // 2
        return ("get", 1, (self.spread(codes[:middle]), self.spread(codes[middle:])))

    def test_steady_ahead_of_too_many(self):
        check_steady_first(self, [just.least_closed])
        with self.assertRaises(ValueError) as caught:
            just.least_closed(((talking(4), talking(4), talking(4)), (1,)))
        self.assertEqual(caught.exception.worker, 1)

    def test_all_entries(self):
        net = ((STAYS, STAYS), ())
        self.assertEqual(just.just_ends(net), [((0,), (0,))])
        for one in every_entry(5):
            self.assertIs(just.is_closed_box(net, (one, (3,))), True)
            self.assertEqual(just.closed_around(net, (one, (2, 4))), (one, (2, 4)))

    def test_what_is_returned_is_new(self):
        check_new(self, lambda: just.just_ends(LATCH_NET))
        check_new(self, lambda: just.least_closed(LATCH_NET))


if __name__ == "__main__":
    unittest.main()
