"""Tests of the rests and of all ends [52]."""

import unittest

from oldletters import rests
from oldletters.errors import TooMany
from tests.samples import (
    FAN, LATCH_NET, ROADS, STAYS, THREE_NET, all_vectors, check_new, plain_ends, plain_least, random_nets, small_nets,
    talking)

NETS = small_nets(80) + small_nets(100, steady=True)


def is_single(box):
    return all(len(entry) == 1 for entry in box)


class Rests(unittest.TestCase):
    def test_rests_against_all_vectors(self):
        many = set()
        for net in NETS:
            ends = plain_ends(net, "lossy")
            just = plain_ends(net, "just")
            wanted = [vector for vector in all_vectors(net) if tuple((state,) for state in vector) in ends]
            found = rests.rests_of(net)
            self.assertIsInstance(found, list)
            self.assertEqual(found, wanted)
            self.assertTrue(all(tuple((state,) for state in vector) in just for vector in found))
            many.add((bool(net[1]), len(found)))
        for steady in (True, False):
            self.assertLessEqual({(steady, count) for count in range(4)}, many)

    def test_surely_rests(self):
        seen = {}
        for net in NETS:
            for road in ROADS:
                rest = all(is_single(end) for end in plain_ends(net, road))
                self.assertIs(rests.surely_rests(net, road), rest)
                kind = (road, bool(net[1]), rest)
                seen[kind] = seen.get(kind, 0) + 1
        self.assertEqual(len(seen), 8)
        self.assertGreater(min(seen.values()), 5, seen)

    def test_named_nets(self):
        self.assertEqual(rests.rests_of(LATCH_NET), [(1, 0)])
        self.assertEqual(rests.rests_of(((talking(2),), ())), [])
        self.assertIs(rests.surely_rests(((talking(2),), ()), "just"), False)
        self.assertEqual(rests.rests_of(((STAYS,) * 5, ())), [(0, 0, 0, 0, 0)])
        self.assertIs(rests.surely_rests(((STAYS,) * 5, (0, 1)), "lossy"), True)
        self.assertEqual(len(rests.rests_of(((FAN,) * 5, ()))), 1024)
        self.assertIs(rests.surely_rests(((FAN,) * 5, ()), "lossy"), True)

    def test_all_ends_and_least_ends(self):
        many = set()
        for net in NETS:
            for road in ROADS:
                found = rests.all_ends(net, road)
                self.assertIsInstance(found, list)
                self.assertEqual(found, plain_ends(net, road))
                many.add((road, min(len(found), 6)))
            self.assertEqual(rests.least_ends(net), plain_least(plain_ends(net, "lossy")))
        self.assertLessEqual({("lossy", count) for count in range(1, 7)} | {("just", 1), ("just", 2)}, many)

    def refuses(self, call, *things):
        with self.assertRaises(TooMany) as caught:
            call(*things)
        self.assertEqual(caught.exception.most, 512)

    def test_many_boxes(self):
        def ring(many):
            return (1, (0,) * many, tuple(("go", (at + 1) % many) for at in range(many)))
        # 511 boxes, 441 boxes.
        for net in (((ring(9),), ()), ((ring(9),), (0,)), ((ring(2), ring(3), ring(2), ring(3)), (1,))):
            whole = tuple(tuple(range(len(row[1]))) for row in net[0])
            for road in ROADS:
                self.assertEqual(rests.all_ends(net, road), [whole])
            self.assertEqual(rests.least_ends(net), [whole])
        # 1023 boxes, 525 boxes, 567 boxes.
        for net in (((ring(10),), ()), ((ring(3), ring(2), ring(2), ring(2), ring(2)), (0,)),
                    ((ring(4), ring(4), ring(2)), ())):
            for road in ROADS:
                self.refuses(rests.all_ends, net, road)
            self.refuses(rests.least_ends, net)
            # Rests alone do not ask how many boxes there are.
            self.assertEqual(rests.rests_of(net), [])
            self.assertIs(rests.surely_rests(net, "lossy"), False)
            self.assertIs(rests.surely_rests(net, "just"), False)
        # States that are never come to do not count.
        self.assertEqual(rests.all_ends(((STAYS,) * 5, ()), "just"), [((0,),) * 5])
        self.assertEqual(rests.least_ends(((STAYS,) * 5, (3,))), [((0,),) * 5])

    def test_too_many_on_just_roads(self):
        net = ((talking(4), talking(4), talking(4)), ())
        self.refuses(rests.surely_rests, net, "just")
        self.assertIs(rests.surely_rests(net, "lossy"), False)

    def test_larger_nets(self):
        for net in random_nets(60, most_workers=5, most_states=5, most_letters=4, depth=3, steady=True):
            for vector in rests.rests_of(net):
                for worker, (_, shown, codes) in enumerate(net[0]):
                    code = codes[vector[worker]]
                    while code[0] == "get":
                        code = code[2][net[0][code[1]][1][vector[code[1]]]]
                    self.assertEqual(code, ("go", vector[worker]))

    def test_what_is_returned_is_new(self):
        for net in (LATCH_NET, THREE_NET):
            check_new(self, lambda: rests.rests_of(net))
            check_new(self, lambda: rests.all_ends(net, "lossy"))
            check_new(self, lambda: rests.least_ends(net))


if __name__ == "__main__":
    unittest.main()
