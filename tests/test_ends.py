"""Tests of the ends [9], [46]."""

import unittest

from oldletters import ends
from oldletters.codes import steps_of
from oldletters.nets import shown_lots
from tests.samples import (
    LATCH_NET, ROADS, THREE_NET, all_boxes, plain_ends, plain_knots, plain_moments, plain_shown, plain_ways,
    random_nets, small_nets)

NETS = small_nets(50) + small_nets(80, steady=True)


def plain_reason(net, box, road, fits):
    """Return what why_not has to return."""
    lots = shown_lots(net, box)
    for worker, entry in enumerate(box):
        ways = plain_ways(net, worker, entry, lots)
        parted = [(one, other) for one in entry for other in entry if (one, other) not in ways]
        if parted:
            return ("piece", worker) + min(parted)
    leaving = [(worker, before, answers) for worker, entry in enumerate(box) for before in entry
               for answers, state in steps_of(net[0][worker][2][before], lots) if state not in entry]
    if road == "just" and leaving:
        return ("leaves",) + min(leaving)
    return None if fits else ("knot",)


def plain_fitting(net, box):
    """Return the knots that a box fits, from the moments of runs."""
    others = [worker for worker in range(len(net[0])) if worker not in net[1]]
    lots = plain_shown(net, box)
    found = []
    for knot in plain_knots(net):
        same = [vector for vector, seen in plain_moments(net)
                if knot == (tuple(vector[worker] for worker in net[1]),
                            tuple(tuple(sorted(seen[worker])) for worker in net[1]))]
        steady = all(place in box[worker] and lots[worker] <= set(letters)
                     for worker, place, letters in zip(net[1], *knot))
        if steady and all(set(box[worker]) <= {vector[worker] for vector in same} for worker in others):
            found.append(knot)
    return found


class Ends(unittest.TestCase):
    def test_example(self):
        one = (2, (0, 1), (("get", 1, (("go", 0), ("go", 1))), ("get", 1, (("go", 0), ("go", 1)))))
        other = (2, (1, 0), (("get", 0, (("go", 1), ("go", 0))), ("get", 0, (("go", 1), ("go", 0)))))
        net = ((one, other), ())
        self.assertEqual(ends.why_not(net, ((0, 1), (1,)), "lossy"), ("piece", 0, 0, 1))
        self.assertIsNone(ends.why_not(net, ((0, 1), (0, 1)), "just"))
        self.assertIs(ends.is_end(net, ((0, 1), (0, 1)), "just"), True)
        self.assertEqual(ends.knot_for(net, ((0,), (1,))), ((), ()))

    def test_ends_against_all_boxes_and_all_runs(self):
        seen = set()
        for net in NETS:
            for road in ROADS:
                right = plain_ends(net, road)
                for box in all_boxes(net):
                    self.assertIs(ends.is_end(net, box, road), box in right)
                    reason = ends.why_not(net, box, road)
                    self.assertEqual(reason is None, box in right)
                    self.assertEqual(reason, plain_reason(net, box, road, box in right))
                    if reason is not None:
                        same = reason[0] == "piece" and reason[2] == reason[3]
                        seen.add((reason[0], len(net[1]) > 0, road, same))
        for steady in (True, False):
            for road in ROADS:
                self.assertLessEqual({("piece", steady, road, True), ("piece", steady, road, False),
                                      ("knot", steady, road, False)}, seen)
            self.assertIn(("leaves", steady, "just", False), seen)
            self.assertNotIn(("leaves", steady, "lossy", False), seen)

    def test_knot_for(self):
        seen = {True: 0, False: 0}
        several = 0
        for net in small_nets(40, steady=True) + small_nets(8):
            for box in all_boxes(net):
                fitting = plain_fitting(net, box)
                self.assertEqual(ends.knot_for(net, box), min(fitting) if fitting else None)
                seen[bool(fitting)] += 1
                several += len(fitting) > 1
        self.assertGreater(min(seen.values()), 100)
        self.assertGreater(several, 20)

    def test_named_boxes(self):
        self.assertIs(ends.is_end(LATCH_NET, ((0,), (0, 1)), "lossy"), False)
        self.assertEqual(ends.why_not(LATCH_NET, ((0,), (0, 1)), "lossy"), ("piece", 1, 0, 0))
        self.assertIs(ends.is_end(LATCH_NET, ((1,), (0,)), "lossy"), True)
        self.assertEqual(ends.why_not(LATCH_NET, ((0, 1), (0, 1)), "lossy"), ("piece", 0, 1, 0))
        # Two workers that hold one another up, but never begin.
        look = ("get", 1, (("go", 0), ("go", 1)))
        back = ("get", 0, (("go", 0), ("go", 1)))
        net = (((2, (0, 1), (look, look)), (2, (0, 1), (back, back))), ())
        self.assertEqual(ends.why_not(net, ((1,), (1,)), "just"), ("knot",))
        self.assertIsNone(ends.knot_for(net, ((1,), (1,))))
        self.assertIsNone(ends.why_not(net, ((0,), (0,)), "just"))
        # A step that leaves, with the least of its answers.
        leave = ("get", 1, (("go", 0), ("get", 1, (("go", 1), ("go", 0)))))
        two = (((1, (0, 0), (leave, ("go", 0))), (2, (0, 1), (("go", 1), ("go", 0)))), ())
        self.assertEqual(ends.why_not(two, ((0,), (0, 1)), "just"), ("leaves", 0, 0, (1, 0)))
        self.assertIsNone(ends.why_not(two, ((0,), (0, 1)), "lossy"))

    def test_steady_worker_that_has_shown_too_little_or_is_elsewhere(self):
        # The steady worker goes to 1 and 2 and round there, or to 3, and does not come back.
        codes = (("get", 1, (("go", 1), ("go", 3))), ("go", 2), ("go", 1), ("go", 3))
        net = (((4, (0, 1, 2, 3), codes), (2, (0, 1), (("go", 1), ("go", 0)))), (0,))
        self.assertEqual(ends.knot_for(net, ((1, 2), (0, 1))), ((1,), ((0, 1, 2),)))
        self.assertIs(ends.is_end(net, ((1, 2), (0, 1)), "just"), True)
        self.assertIs(ends.is_end(net, ((3,), (0, 1)), "just"), True)
        self.assertIsNone(ends.knot_for(net, ((1, 3), (0, 1))))
        self.assertIsNone(ends.knot_for(net, ((0, 1, 3), (0, 1))))
        self.assertEqual(ends.knot_for(net, ((0, 1), (0,))), ((1,), ((0, 1),)))

    def test_larger_nets(self):
        for net in [THREE_NET] + random_nets(30, most_workers=5, most_states=5, most_letters=4, depth=3, steady=True):
            for box in ((tuple((0,) for _ in net[0])), tuple(tuple(range(len(row[1]))) for row in net[0])):
                for road in ROADS:
                    reason = plain_reason(net, box, road, ends.knot_for(net, box) is not None)
                    self.assertEqual(ends.why_not(net, box, road), reason)
                    self.assertIs(ends.is_end(net, box, road), reason is None)


if __name__ == "__main__":
    unittest.main()
