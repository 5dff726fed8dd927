"""Tests of the knots [7], [8], [42]."""

import itertools
import random
import unittest

from oldletters import knots
from oldletters.errors import NoKnot, NoWay, TooMany
from oldletters.runs import Run, first_fault, run_with, vectors_along
from oldletters.tables import table_of
from tests.samples import (
    LATCH_NET, THREE_NET, all_vectors, check_new, every_entry, plain_knots, plain_moments, plain_results, random_net,
    random_nets, small_nets)

ONCE = (3, (0, 1, 2), (("get", 1, (("go", 1), ("go", 2))), ("go", 1), ("go", 2)))
ONCE_NET = ((ONCE, (2, (0, 1), (("go", 1), ("go", 0)))), (0,))
ONCE_KNOTS = [((0,), ((0,),)), ((1,), ((0, 1),)), ((2,), ((0, 2),))]
SMALL = small_nets(80, steady=True)


def ring(many):
    """Return a worker with one letter that goes round through so many states."""
    return (1, (0,) * many, tuple(("go", (at + 1) % many) for at in range(many)))


def plain_box(net, knot):
    """Return the box of a knot by trying all steps until nothing is new, and the lots at it."""
    box = [{0} for _ in net[0]]
    lots = [set() for _ in net[0]]
    for worker, place, letters in zip(net[1], *knot):
        box[worker] = {place}
        lots[worker] = set(letters)
    grew = True
    while grew:
        for worker, (_, shown, _) in enumerate(net[0]):
            if worker not in net[1]:
                lots[worker] = {shown[state] for state in box[worker]}
        before = [set(entry) for entry in box]
        for worker, (_, _, codes) in enumerate(net[0]):
            if worker not in net[1]:
                for state in list(box[worker]):
                    box[worker] |= plain_results(codes[state], lots)
        grew = box != before
    return tuple(tuple(sorted(entry)) for entry in box), lots


def plain_next(net, knot):
    """Return the ascending list of the knots behind a knot."""
    _, lots = plain_box(net, knot)
    found = set()
    places, letters = knot
    for index, worker in enumerate(net[1]):
        _, shown, codes = net[0][worker]
        for state in plain_results(codes[places[index]], lots):
            more = tuple(sorted({*letters[index], shown[state]}))
            found.add((places[:index] + (state,) + places[index + 1:], letters[:index] + (more,) + letters[index + 1:]))
    return sorted(found)


def knots_by_form(net):
    """Return all knots of a small net by form."""
    rows = [[(place, letters) for place in range(len(net[0][worker][1])) for letters in every_entry(net[0][worker][0])
             if net[0][worker][1][place] in letters] for worker in net[1]]
    return [(tuple(place for place, _ in row), tuple(letters for _, letters in row))
            for row in itertools.product(*rows)]


def plain_distances(net):
    """Return for each knot that can be how many steps of steady workers it takes."""
    first = (tuple(0 for _ in net[1]), tuple((net[0][worker][1][0],) for worker in net[1]))
    far = {first: 0}
    newest = [first]
    while newest:
        found = []
        for knot in newest:
            for other in plain_next(net, knot):
                if other not in far:
                    far[other] = far[knot] + 1
                    found.append(other)
        newest = found
    return far


class Knots(unittest.TestCase):
    def test_example(self):
        self.assertEqual(knots.knots_of(ONCE_NET), ONCE_KNOTS)
        self.assertIs(knots.can_be(ONCE_NET, (2, 0)), True)
        self.assertEqual(knots.first_knot(ONCE_NET), ONCE_KNOTS[0])
        self.assertEqual(knots.knot_box(ONCE_NET, ONCE_KNOTS[1]), ((1,), (0, 1)))
        self.assertEqual(knots.next_knots(ONCE_NET, ONCE_KNOTS[0]), ONCE_KNOTS[1:])
        self.assertEqual(knots.next_knots(ONCE_NET, ONCE_KNOTS[1]), [ONCE_KNOTS[1]])
        self.assertEqual(knots.knots_along(ONCE_NET, []), [ONCE_KNOTS[0]])

    def test_knots_that_can_be_as_runs_have_them(self):
        many = set()
        for net in SMALL + [ONCE_NET]:
            found = knots.knots_of(net)
            self.assertIsInstance(found, list)
            self.assertEqual(found, sorted(plain_knots(net)))
            self.assertEqual(found, sorted(plain_distances(net)))
            self.assertIn(knots.first_knot(net), found)
            many.add(len(found))
        self.assertGreater(len(many), 5)

    def test_larger_nets(self):
        for net in random_nets(60, most_workers=5, most_states=5, most_letters=4, depth=3, steady=True):
            self.assertEqual(knots.knots_of(net), sorted(plain_distances(net)))

    def test_boxes_and_next_knots_of_any_knots(self):
        stays = 0
        for net in SMALL + [ONCE_NET]:
            for knot in knots_by_form(net):
                self.assertEqual(knots.knot_box(net, knot), plain_box(net, knot)[0])
                self.assertEqual(knots.next_knots(net, knot), plain_next(net, knot))
                stays += knot in plain_next(net, knot) and knot not in plain_knots(net)
        self.assertGreater(stays, 10)

    def test_letters_that_no_state_shows(self):
        look = ("get", 0, (("go", 0), ("go", 1), ("go", 0)))
        net = (((3, (0, 2), (("go", 0), ("go", 1))), (1, (0, 0), (look, look))), (0,))
        self.assertEqual(knots.knot_box(net, ((0,), ((0, 1),))), ((0,), (0, 1)))
        self.assertEqual(knots.knot_box(net, ((0,), ((0, 2),))), ((0,), (0,)))
        self.assertEqual(knots.next_knots(net, ((1,), ((1, 2),))), [((1,), ((1, 2),))])

    def test_knot_path(self):
        for net in SMALL + [ONCE_NET]:
            far = plain_distances(net)
            for knot in knots_by_form(net):
                if knot not in far:
                    with self.assertRaises(NoKnot) as caught:
                        knots.knot_path(net, knot)
                    self.assertIs(caught.exception.knot, knot)
                    with self.assertRaises(NoKnot):
                        knots.run_to_knot(net, knot)
                    continue
                path = knots.knot_path(net, knot)
                self.assertEqual((path[0], path[-1], len(path)), (knots.first_knot(net), knot, far[knot] + 1))
                for one, other in zip(path, path[1:]):
                    self.assertIn(other, plain_next(net, one))
        self.assertEqual(knots.knot_path(ONCE_NET, ONCE_KNOTS[0]), [ONCE_KNOTS[0]])

    def test_no_steady_workers(self):
        for net in small_nets(30) + random_nets(20):
            knot = ((), ())
            self.assertEqual(knots.first_knot(net), knot)
            self.assertEqual(knots.knots_of(net), [knot])
            self.assertEqual(knots.next_knots(net, knot), [])
            self.assertEqual(knots.knot_path(net, knot), [knot])
            self.assertEqual(knots.knot_box(net, knot), table_of(net))
            self.assertEqual(knots.ever_at(net), table_of(net))
            self.check_run_to_knot(net, knot)
            self.assertEqual(knots.knots_along(net, knots.run_to_knot(net, knot)),
                             [knot] * (len(knots.run_to_knot(net, knot)) + 1))

    def test_what_can_be_against_all_runs(self):
        seen = {True: 0, False: 0}
        for net in SMALL + small_nets(25) + [ONCE_NET, LATCH_NET]:
            can = {vector for vector, _ in plain_moments(net)}
            self.assertEqual(knots.vectors_of(net), sorted(can))
            self.assertEqual(knots.ever_at(net), tuple(tuple(sorted(set(row))) for row in zip(*can)))
            for vector in all_vectors(net):
                self.assertIs(knots.can_be(net, vector), vector in can)
                seen[vector in can] += 1
        self.assertGreater(min(seen.values()), 100)

    def test_vectors_together_need_not_be(self):
        self.assertEqual(knots.ever_at(ONCE_NET), ((0, 1, 2), (0, 1)))
        two = ((ONCE, ONCE_NET[0][1], ONCE), (0, 2))
        self.assertIs(knots.can_be(two, (1, 0, 2)), True)
        # A steady worker that has gone on does not come back, and one that waits for it is not ahead of it.
        wait = (2, (0, 1), (("get", 0, (("go", 0), ("go", 1))), ("go", 1)))
        net = (((2, (0, 1), (("go", 1), ("go", 1))), wait), (0,))
        self.assertEqual(knots.vectors_of(net), [(0, 0), (1, 0), (1, 1)])
        self.assertEqual(knots.vectors_of((net[0], ())), [(0, 0), (0, 1), (1, 0), (1, 1)])

    def test_many_vectors(self):
        self.assertEqual(len(knots.vectors_of(((ring(4),) * 5, ()))), 1024)
        self.assertEqual(len(knots.vectors_of(((ring(4),) * 5, (1, 3)))), 1024)
        self.assertEqual(len(knots.vectors_of(((ring(1024),), (0,)))), 1024)
        for net in (((ring(4),) * 4 + (ring(5),), ()), ((ring(5),) * 5, (0, 1)), ((ring(1025),), ()),
                    ((ring(1025),), (0,)), ((ring(4),) * 4 + (ring(5),), (2,))):
            with self.assertRaises(TooMany) as caught:
                knots.vectors_of(net)
            self.assertEqual(caught.exception.most, 1024)

    def check_run_to_knot(self, net, knot):
        deeds = knots.run_to_knot(net, knot)
        self.assertIsInstance(deeds, list)
        self.assertIsNone(first_fault(net, deeds))
        self.assertLessEqual(len(deeds), 400)
        run = run_with(net, deeds)
        self.assertEqual(tuple(run.at()[worker] for worker in net[1]), knot[0])
        self.assertEqual(tuple(run.lots()[worker] for worker in net[1]), knot[1])
        been = [set(row) for row in zip(*vectors_along(net, deeds))]
        box = plain_box(net, knot)[0]
        for worker, entry in enumerate(box):
            if worker not in net[1]:
                self.assertLessEqual(set(entry), been[worker])
        return len(deeds)

    def test_run_to_knot(self):
        for net in SMALL + [ONCE_NET]:
            for knot in plain_knots(net):
                self.check_run_to_knot(net, knot)

    def test_runs_of_larger_nets(self):
        rng = random.Random(42)
        for _ in range(40):
            net = random_net(rng, most_workers=5, most_states=5, most_letters=4, depth=3, steady=True)
            found = knots.knots_of(net)
            for knot in [found[0], found[-1]] + rng.sample(found, min(4, len(found))):
                self.check_run_to_knot(net, knot)
                vector = tuple(rng.choice(entry) for entry in plain_box(net, knot)[0])
                self.assertIs(knots.can_be(net, vector), True)
                self.assertEqual(vectors_along(net, knots.run_to_vector(net, vector))[-1], vector)

    def test_long_ways(self):
        # Each letter of the one steady worker lets the other one go on by one, through all its states.
        asks = tuple(("get", 1, tuple(("go", (at + 1) % 5 if letter == at % 4 else at) for letter in range(4)))
                     for at in range(5))
        back = tuple(("get", 0, tuple(("go", (at + 1) % 5 if letter == at % 4 else at) for letter in range(4)))
                     for at in range(5))
        free = (4, (0, 1, 2, 3, 0), tuple(("get", 1, (("go", 0), ("go", min(at + 1, 4)), ("go", at), ("go", 0)))
                                          for at in range(5)))
        net = (((4, (0, 1, 2, 3, 0), asks), (4, (0, 1, 2, 3, 0), back), free, free, free), (0, 1))
        found = knots.knots_of(net)
        self.assertGreater(len(found), 20)
        self.assertGreater(max(self.check_run_to_knot(net, knot) for knot in found[::3] + found[-1:]), 20)

    def test_run_to_vector(self):
        for net in SMALL + small_nets(20) + [ONCE_NET]:
            can = {vector for vector, _ in plain_moments(net)}
            for vector in all_vectors(net):
                if vector in can:
                    deeds = knots.run_to_vector(net, vector)
                    self.assertIsNone(first_fault(net, deeds))
                    self.assertLessEqual(len(deeds), 400)
                    self.assertEqual(vectors_along(net, deeds)[-1], vector)
                else:
                    with self.assertRaises(NoWay) as caught:
                        knots.run_to_vector(net, vector)
                    self.assertIs(caught.exception.vector, vector)

    def test_knots_along(self):
        rng = random.Random(43)
        for net in SMALL + [THREE_NET, ONCE_NET]:
            run = Run(net)
            wanted = [knots.first_knot(net)]
            shown = [{net[0][worker][1][0]} for worker in net[1]]
            for _ in range(25):
                worker = rng.randrange(len(net[0]))
                if worker not in net[1] and rng.random() < 0.3:
                    run.fall(worker)
                else:
                    run.go_to(worker, rng.choice(run.can_come(worker)))
                places = tuple(run.at()[one] for one in net[1])
                for letters, one, place in zip(shown, net[1], places):
                    letters.add(net[0][one][1][place])
                wanted.append((places, tuple(tuple(sorted(letters)) for letters in shown)))
            deeds = run.deeds()
            self.assertEqual(knots.knots_along(net, deeds), wanted)
            self.assertEqual(deeds, run.deeds())
            self.assertEqual(knots.knots_along(net, []), wanted[:1])
            self.assertLessEqual(set(wanted), set(knots.knots_of(net)))

    def test_what_is_returned_is_new(self):
        deeds = [("step", 0, (0,)), ("fall", 1)]
        for call in (lambda: knots.next_knots(ONCE_NET, ONCE_KNOTS[0]), lambda: knots.knots_of(ONCE_NET),
                     lambda: knots.knot_path(ONCE_NET, ONCE_KNOTS[2]), lambda: knots.vectors_of(ONCE_NET),
                     lambda: knots.run_to_knot(ONCE_NET, ONCE_KNOTS[2]),
                     lambda: knots.run_to_vector(ONCE_NET, (2, 1)), lambda: knots.knots_along(ONCE_NET, deeds)):
            check_new(self, call)
        self.assertEqual(deeds, [("step", 0, (0,)), ("fall", 1)])


if __name__ == "__main__":
    unittest.main()
