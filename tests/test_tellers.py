"""Tests of which workers one has to look at [53]."""

import random
import unittest

from oldletters import tellers
from tests.samples import (
    FAN, LATCH_NET, STAYS, check_new, check_steady_first, every_tuple, odd_values, plain_ends, plain_greatest,
    random_net, small_nets, talking)

LATCH_TALK = ((LATCH_NET[0][0], (2, (0, 1), (("go", 1), ("go", 0)))), ())
NETS = small_nets(120)


class Tellers(unittest.TestCase):
    def test_example(self):
        self.assertEqual(tellers.tellers_of(LATCH_TALK), [(0,)])

    def test_parted_by(self):
        self.assertEqual(tellers.parted_by(((0,), (1, 2), (0, 3)), ((1,), (0, 2), (1, 2))), [0, 2])
        self.assertEqual(tellers.parted_by(((0,), (1,)), ((0,), (1,))), [])
        self.assertEqual(tellers.parted_by(((0, 1),), ((2, 3),)), [0])
        self.assertEqual(tellers.parted_by(((0, 3),), ((1, 3),)), [])

    def test_tellers(self):
        seen = set()
        for net in NETS:
            ends = plain_greatest(plain_ends(net, "lossy"))
            good = []
            for some in every_tuple(len(net[0])):
                if all(one == other or any(not set(one[worker]) & set(other[worker]) for worker in some)
                       for one in ends for other in ends):
                    good.append(some)
            least = sorted(some for some in good if not any(set(less) < set(some) for less in good))
            self.assertEqual(tellers.tellers_of(net), least)
            self.assertEqual(least == [()], len(ends) == 1)
            seen.add((len(least), len(least[0])))
        self.assertGreaterEqual(seen, {(1, 0), (1, 1), (1, 2)})

    def test_workers_that_follow_others(self):
        self.assertEqual(tellers.tellers_of(((STAYS, STAYS), ())), [()])
        self.assertEqual(tellers.tellers_of(((FAN,) * 4, ())), [(0, 1, 2, 3)])
        # It goes to 1 or 2 and stays there; by what it shows there others know it for ever.
        free = (2, (0, 0, 1), (("get", 0, (("go", 1), ("go", 2))), ("go", 1), ("go", 2)))
        after = (1, (0, 0), (("get", 1, (("go", 0), ("go", 1))),) * 2)
        net = ((talking(2), free, after), ())
        self.assertEqual(tellers.tell_ends(net, []), [((0, 1), (1,), (0,)), ((0, 1), (2,), (1,))])
        self.assertEqual(tellers.tellers_of(net), [(1,), (2,)])
        both = ("get", 1, (("get", 2, (("go", 0), ("go", 1))), ("get", 2, (("go", 2), ("go", 3)))))
        net = ((talking(2), free, free, (1, (0,) * 4, (both,) * 4)), ())
        self.assertEqual(len(tellers.tell_ends(net, [])), 4)
        self.assertEqual(tellers.tellers_of(net), [(1, 2), (3,)])

    def test_tell_ends(self):
        rng = random.Random(53)
        many = set()
        for net in NETS:
            ends = plain_greatest(plain_ends(net, "lossy"))
            self.assertEqual(tellers.tell_ends(net, []), ends)
            pairs = [(worker, state) for worker, row in enumerate(net[0]) for state in range(len(row[1]))]
            rows = [[pair] for pair in pairs] + [rng.choices(pairs, k=rng.randint(2, 4)) for _ in range(10)]
            for seen in rows:
                kept = list(seen)
                found = tellers.tell_ends(net, seen)
                self.assertEqual(seen, kept)
                self.assertIsInstance(found, list)
                self.assertEqual(found, [end for end in ends if all(state in end[worker] for worker, state in seen)])
                many.add(len(found))
            for tuple_of in tellers.tellers_of(net):
                for end in ends:
                    self.assertEqual(tellers.tell_ends(net, [(worker, rng.choice(end[worker])) for worker in tuple_of]),
                                     [end])
                for _ in range(10):
                    seen = [(worker, rng.randrange(len(net[0][worker][1]))) for worker in tuple_of]
                    self.assertLessEqual(len(tellers.tell_ends(net, seen)), 1)
        self.assertGreaterEqual(many, {0, 1, 2, 3})

    def test_states_that_no_end_has(self):
        self.assertEqual(tellers.tell_ends(LATCH_NET, [(0, 0)]), [])
        self.assertEqual(tellers.tell_ends(LATCH_NET, [(0, 1), (1, 1)]), [])
        self.assertEqual(tellers.tell_ends(LATCH_NET, [(0, 1), (1, 0), (0, 1)]), [((1,), (0,))])

    def test_larger_nets(self):
        rng = random.Random(54)
        self.assertEqual(len(tellers.tell_ends(((FAN,) * 5, ()), [(0, 1), (4, 3)])), 64)
        for _ in range(60):
            net = random_net(rng, most_workers=4, most_states=4, most_letters=3)
            ends = tellers.tell_ends(net, [])
            self.assertGreaterEqual(len(ends), 1)
            for some in tellers.tellers_of(net):
                for one in ends:
                    for other in ends:
                        self.assertTrue(one == other or set(some) & set(tellers.parted_by(one, other)))

    def test_steady_ahead_of_anything_else(self):
        check_steady_first(self, [tellers.tellers_of])
        for odd in odd_values():
            check_steady_first(self, [lambda net: tellers.tell_ends(net, odd)])

    def test_what_is_returned_is_new(self):
        check_new(self, lambda: tellers.parted_by(((0,), (1,)), ((1,), (1,))))
        check_new(self, lambda: tellers.tellers_of(LATCH_TALK))
        check_new(self, lambda: tellers.tell_ends(LATCH_TALK, []))


if __name__ == "__main__":
    unittest.main()
