"""Tests of the claims [51]."""

import random
import unittest

from oldletters import claims
from oldletters.errors import TooMany
from oldletters.forms import is_claim
from oldletters.nets import all_states
from tests.samples import (
    LATCH_NET, ROADS, STAYS, THREE_NET, all_boxes, check_new, in_box, plain_ends, plain_greatest, plain_holds,
    random_claim, random_lots, random_net, small_nets, talking)

AGAIN = ("again", 0, (1,))
EXAMPLE_NET = ((LATCH_NET[0][0], (2, (0, 1), (("go", 1), ("go", 0)))), ())


class Claims(unittest.TestCase):
    def test_example(self):
        self.assertIs(claims.surely_holds(EXAMPLE_NET, AGAIN, "just"), True)
        self.assertEqual(claims.end_without(EXAMPLE_NET, AGAIN, "lossy"), ((0,), (0, 1)))

    def test_nested_claims(self):
        box = ((0, 2), (1,))
        yes, no = ("again", 0, (1, 2)), ("again", 1, (0, 2))
        for claim, holds in (
                (yes, True), (no, False), (("again", 0, (1,)), False), (("again", 1, (0, 1)), True),
                (("not", yes), False), (("not", no), True), (("not", ("not", yes)), True),
                (("and", yes, no), False), (("and", no, yes), False), (("and", yes, yes), True),
                (("and", no, no), False), (("or", yes, no), True), (("or", no, yes), True), (("or", yes, yes), True),
                (("or", no, no), False),
                (("not", ("and", yes, no)), True), (("or", ("not", yes), ("and", yes, ("not", no))), True),
                (("and", ("or", no, yes), ("not", ("or", no, no))), True)):
            self.assertIs(claims.claim_holds(claim, box), holds, claim)

    def test_claims_by_chance(self):
        rng = random.Random(51)
        for net in small_nets(30):
            for box in all_boxes(net):
                claim = random_claim(rng, net, rng.randint(1, 8))
                self.assertTrue(is_claim(net, claim))
                self.assertIs(claims.claim_holds(claim, box), plain_holds(claim, box))

    def test_widest_ends_against_all_boxes(self):
        rng = random.Random(52)
        many = set()
        for net in small_nets(60) + small_nets(90, steady=True):
            ends = plain_ends(net, "lossy")
            for box in [all_states(net)] + [random_lots(rng, [len(row[1]) for row in net[0]]) for _ in range(8)]:
                found = claims.widest_ends(net, box)
                self.assertIsInstance(found, list)
                self.assertEqual(found, plain_greatest([end for end in ends if in_box(end, box)]))
                many.add((bool(net[1]), len(found)))
        for steady in (True, False):
            self.assertLessEqual({(steady, count) for count in range(4)}, many)

    def test_an_end_in_several_widest_ends(self):
        # The steady worker shows 1 or 2 on its way, by which the next two begin to hold one another up at 1 or at 2.
        steady = (3, (0, 1, 2, 0), (("get", 3, (("go", 1), ("go", 2))), ("go", 3), ("go", 3), ("go", 3)))
        held = (("get", 2, (("go", 0), ("go", 1), ("go", 0))), ("get", 2, (("go", 0), ("go", 0), ("go", 2))))
        begin = ("get", 0, (("go", 0), ("go", 1), ("go", 2)))
        one = (3, (0, 1, 2), (("get", 2, (begin, ("go", 1), ("go", 2))),) + held)
        other = (3, (0, 1, 2), tuple(("get", 1, code[2]) for code in
                                     (("get", 1, (("go", 0), ("go", 1), ("go", 2))),) + held))
        net = ((steady, one, other, talking(2)), (0,))
        self.assertEqual(claims.widest_ends(net, all_states(net)),
                         [((3,), (0, 1), (0, 1), (0, 1)), ((3,), (0, 2), (0, 2), (0, 1))])
        small = ((0, 3), (0,), (0, 1, 2), (0, 1))
        self.assertEqual(claims.widest_ends(net, small), [((3,), (0,), (0,), (0, 1))])
        both = ("and", ("again", 1, (1,)), ("again", 1, (2,)))
        self.assertIs(claims.can_hold(net, both, "lossy"), False)
        self.assertIs(claims.surely_holds((net[0], ()), ("not", both), "lossy"), False)

    def test_ends_with_and_without_claims(self):
        rng = random.Random(53)
        seen = {}
        for net in small_nets(60) + small_nets(80, steady=True):
            for road in ROADS:
                ends = plain_ends(net, road)
                for _ in range(8):
                    claim = random_claim(rng, net, rng.choice((1, 1, 2, 3, 5, 8)))
                    right = [end for end in ends if plain_holds(claim, end)]
                    wrong = [end for end in ends if not plain_holds(claim, end)]
                    self.check_end(claims.end_with(net, claim, road), right)
                    self.check_end(claims.end_without(net, claim, road), wrong)
                    self.assertIs(claims.can_hold(net, claim, road), len(right) > 0)
                    self.assertIs(claims.surely_holds(net, claim, road), len(wrong) == 0)
                    kind = (road, bool(net[1]), len(right) > 0, len(wrong) > 0)
                    seen[kind] = seen.get(kind, 0) + 1
        self.assertEqual(len(seen), 12)
        self.assertGreater(min(seen.values()), 20, seen)

    def check_end(self, found, ends):
        if ends:
            self.assertIn(found, ends)
        else:
            self.assertIsNone(found)

    def test_ends_that_are_not_widest(self):
        # Only a small end lacks both states; only the widest one has them.
        net = ((STAYS[:1] + (STAYS[1][:2], (("get", 1, (("go", 0), ("go", 1))),) * 2), talking(2)), ())
        one, other = ("again", 0, (0,)), ("again", 0, (1,))
        self.assertEqual(claims.end_with(net, ("and", one, other), "lossy"), ((0, 1), (0, 1)))
        self.assertEqual(claims.end_with(net, ("and", one, ("not", other)), "lossy"), ((0,), (0, 1)))
        self.assertIsNone(claims.end_without(net, ("or", one, other), "lossy"))
        self.assertIs(claims.surely_holds(net, ("and", one, other), "lossy"), False)
        self.assertIs(claims.surely_holds(net, ("and", one, other), "just"), True)
        self.assertIsNone(claims.end_with(net, ("and", one, ("not", one)), "lossy"))

    def test_several_claims_that_are_not_to_hold(self):
        reads = ("get", 1, (("go", 0), ("go", 1), ("go", 2)))
        net = (((1, (0, 0, 0), (reads,) * 3), talking(3)), ())
        one, other = ("again", 0, (1,)), ("again", 0, (2,))
        lacking = ("and", ("not", one), ("not", other))
        self.assertEqual(claims.end_with(net, lacking, "lossy"), ((0,), (0, 1, 2)))
        self.assertEqual(claims.end_without(net, ("or", one, other), "lossy"), ((0,), (0, 1, 2)))
        self.assertIs(claims.can_hold(net, ("and", lacking, ("not", ("again", 0, (0,)))), "lossy"), False)
        self.assertIs(claims.surely_holds(net, ("not", lacking), "just"), True)

    def test_larger_nets(self):
        rng = random.Random(54)
        for _ in range(40):
            net = random_net(rng, most_workers=5, most_states=5, most_letters=4, depth=3, steady=True)
            wide = claims.widest_ends(net, all_states(net))
            self.assertGreaterEqual(len(wide), 1)
            claim = random_claim(rng, net, 8)
            found = claims.end_without(net, claim, "lossy")
            if found is None:
                self.assertTrue(all(plain_holds(claim, end) for end in wide))
            else:
                self.assertFalse(plain_holds(claim, found))
                self.assertTrue(any(in_box(found, end) for end in wide))

    def test_too_many_on_just_roads(self):
        net = ((talking(4), talking(4), talking(4)), (1,))
        for call in (claims.end_with, claims.end_without, claims.can_hold, claims.surely_holds):
            with self.assertRaises(TooMany) as caught:
                call(net, AGAIN, "just")
            self.assertEqual(caught.exception.most, 512)
        self.assertEqual(claims.end_with(net, AGAIN, "lossy"), all_states(net))
        self.assertIsNone(claims.end_without(net, AGAIN, "lossy"))
        self.assertIs(claims.can_hold(net, AGAIN, "lossy"), True)
        self.assertIs(claims.surely_holds(net, AGAIN, "lossy"), True)

    def test_what_is_returned_is_new(self):
        check_new(self, lambda: claims.widest_ends(LATCH_NET, ((0, 1), (0, 1))))
        check_new(self, lambda: claims.widest_ends(THREE_NET, all_states(THREE_NET)))


if __name__ == "__main__":
    unittest.main()
