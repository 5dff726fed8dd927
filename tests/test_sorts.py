"""Tests of the ends with sorts [55]."""

import itertools
import random
import unittest

from oldletters import sorts
from oldletters.claims import end_without, surely_holds
from oldletters.codes import asked_by
from oldletters.errors import NoWorker, TooMany
from oldletters.forms import is_sorts
from oldletters.trees import greatest_ends
from tests.samples import (
    FAN, LATCH_NET, STAYS, check_new, check_steady_first, every_entry, every_tuple, in_box, odd_values, plain_ends,
    plain_greatest, plain_holds, plain_piece, plain_results, plain_ways, random_claim, random_net, small_nets, talking)

NETS = small_nets(70)
SORTS = ("flaky", "stopped", "mad")
PLAIN = ((), (), ())


def sorts_of(sort, workers):
    return tuple(workers if word == sort else () for word in SORTS)


def random_sorts(rng, net):
    """Return sorts of a net by chance."""
    given = [rng.choice((None, None, 0, 1, 2)) for _ in net[0]]
    return tuple(tuple(worker for worker, sort in enumerate(given) if sort == index) for index in range(3))


def every_sorts(net):
    """Return all sorts of a net."""
    return [tuple(tuple(worker for worker, sort in enumerate(given) if sort == index) for index in range(3))
            for given in itertools.product((None, 0, 1, 2), repeat=len(net[0]))]


def plain_shown_with(net, given, box):
    return [set(entry) if worker in given[2] else {row[1][state] for state in entry}
            for worker, (row, entry) in enumerate(zip(net[0], box))]


def plain_table_with(net, given):
    """Return the table with sorts by trying all steps until nothing is new."""
    box = [set(range(row[0])) if worker in given[2] else {0} for worker, row in enumerate(net[0])]
    before = None
    while before != box:
        before = [set(entry) for entry in box]
        for worker, row in enumerate(net[0]):
            if worker not in given[2]:
                for state in list(box[worker]):
                    box[worker] |= plain_results(row[2][state], plain_shown_with(net, given, box))
    return tuple(tuple(sorted(entry)) for entry in box)


def plain_end_with(net, given, box, table):
    """Tell whether a box with sorts is an end with sorts."""
    lots = plain_shown_with(net, given, box)
    if not in_box(box, table):
        return False
    for worker, entry in enumerate(box):
        if worker in given[0]:
            ways = plain_ways(net, worker, entry, lots)
            if not all(state == 0 or (0, state) in ways for state in entry) or 0 not in entry:
                return False
        elif worker in given[1]:
            if len(entry) != 1:
                return False
        elif worker not in given[2] and not plain_piece(net, worker, entry, lots):
            return False
    return True


def boxes_with(net, given):
    """Return all boxes with these sorts."""
    return sorted(itertools.product(*[every_entry(row[0] if worker in given[2] else len(row[1]))
                                      for worker, row in enumerate(net[0])]))


def plain_ends_with(net, given):
    """Return all ends with sorts."""
    table = plain_table_with(net, given)
    return [box for box in boxes_with(net, given) if plain_end_with(net, given, box, table)]


def plain_holds_with(net, given, claim, box):
    """Tell whether a claim holds at a box with sorts."""
    def again(worker, states, entry):
        own = {net[0][worker][1][state] for state in states} if worker in given[2] else set(states)
        return bool(own & set(entry))
    return plain_holds(claim, box, again)


def plain_spoils(net, claim, sort, workers):
    given = sorts_of(sort, workers)
    return any(not plain_holds_with(net, given, claim, end) for end in plain_ends_with(net, given))


class Sorts(unittest.TestCase):
    def test_example(self):
        self.assertEqual([sorts.ends_with(LATCH_NET, PLAIN), sorts.ends_with(LATCH_NET, ((1,), (), ()))],
                         [[((1,), (0,))], [((0,), (0, 1)), ((1,), (0,))]])
        claim = ("not", ("again", 1, (1,)))
        self.assertEqual([sorts.least_spoilers(LATCH_NET, claim, "flaky"), sorts.touched_by(LATCH_NET, "mad", 0)],
                         [[(0,), (1,)], (1,)])

    def test_tables_and_lots(self):
        rng = random.Random(55)
        for net in NETS:
            for given in every_sorts(net):
                self.assertTrue(is_sorts(net, given))
                self.assertEqual(sorts.table_with(net, given), plain_table_with(net, given))
                boxes = boxes_with(net, given)
                for box in rng.sample(boxes, min(3, len(boxes))):
                    shown = tuple(tuple(sorted(letters)) for letters in plain_shown_with(net, given, box))
                    self.assertEqual(sorts.shown_with(net, given, box), shown)

    def test_letters_that_no_state_shows(self):
        # Only a mad worker shows 2, and by it alone the other one comes to 1.
        net = (((3, (0, 1), (("go", 1), ("go", 0))), (1, (0, 0), (("get", 0, (("go", 0), ("go", 0), ("go", 1))),) * 2)),
               ())
        self.assertEqual(sorts.table_with(net, PLAIN), ((0, 1), (0,)))
        self.assertEqual(sorts.table_with(net, ((), (), (0,))), ((0, 1, 2), (0, 1)))
        self.assertEqual(sorts.shown_with(net, ((), (), (0,)), ((1, 2), (0, 1))), ((1, 2), (0,)))
        self.assertIs(sorts.is_end_with(net, ((), (), (0,)), ((2,), (1,))), True)
        self.assertIs(sorts.is_end_with(net, ((), (), (0,)), ((0, 2), (1,))), True)
        self.assertIs(sorts.is_end_with(net, ((), (), (0,)), ((0, 1), (1,))), False)
        self.assertEqual(sorts.ends_with(net, ((), (), (0,))), [((0, 1, 2), (0, 1))])
        self.assertIs(sorts.holds_with(net, ((), (), (0,)), ("again", 0, (0, 1)), ((2,), (1,))), False)
        self.assertIs(sorts.holds_with(net, ((), (), (0,)), ("again", 0, (1,)), ((1, 2), (1,))), True)
        self.assertEqual(sorts.touched_by(net, "mad", 0), (1,))
        self.assertEqual(sorts.touched_by(net, "mad", 1), ())

    def test_ends_against_all_boxes(self):
        seen = {True: 0, False: 0}
        rng = random.Random(56)
        many = set()
        for net in NETS:
            for given in [PLAIN] + [random_sorts(rng, net) for _ in range(5)]:
                table = plain_table_with(net, given)
                ends = []
                for box in boxes_with(net, given):
                    right = plain_end_with(net, given, box, table)
                    self.assertIs(sorts.is_end_with(net, given, box), right)
                    ends += [box] if right else []
                    seen[right] += 1
                found = sorts.ends_with(net, given)
                self.assertIsInstance(found, list)
                self.assertEqual(found, plain_greatest(ends))
                self.assertGreaterEqual(len(found), 1)
                many.add(len(found))
        self.assertGreater(min(seen.values()), 1000)
        self.assertGreaterEqual(many, {1, 2, 3, 4})

    def test_each_sort_and_several_at_once(self):
        kinds = {}
        for net in small_nets(25):
            for given in every_sorts(net):
                ends = plain_ends_with(net, given)
                self.assertEqual(sorts.ends_with(net, given), plain_greatest(ends))
                kind = tuple(len(workers) > 0 for workers in given)
                kinds[kind] = kinds.get(kind, 0) + 1
        self.assertEqual(len(kinds), 8)
        self.assertGreater(min(kinds.values()), 5)

    def test_plain_workers_alone(self):
        for net in NETS:
            ends = plain_ends(net, "lossy")
            self.assertEqual(sorts.ends_with(net, PLAIN), greatest_ends(net))
            for box in boxes_with(net, PLAIN):
                self.assertIs(sorts.is_end_with(net, PLAIN, box), box in ends)

    def test_ends_with_a_worker_that_becomes_mad(self):
        rng = random.Random(57)
        for net in NETS[:40]:
            given = random_sorts(rng, net)
            ends = plain_ends_with(net, given)
            for end in rng.sample(ends, min(5, len(ends))):
                for worker in range(len(net[0])):
                    if worker not in given[2]:
                        flaky, stopped, mad = [tuple(one for one in row if one != worker) for row in given]
                        lots = sorts.shown_with(net, given, end)
                        other = end[:worker] + (lots[worker],) + end[worker + 1:]
                        madder = (flaky, stopped, tuple(sorted(mad + (worker,))))
                        self.assertIs(sorts.is_end_with(net, madder, other), True)

    def test_many_ends(self):
        def ring(many):
            return (1, (0,) * many, tuple(("go", (at + 1) % many) for at in range(many)))
        for many, other in ((400, ()), (401, None)):
            net = ((ring(many),), ())
            self.assertEqual(sorts.ends_with(net, PLAIN), [(tuple(range(many)),)])
            if other is None:
                self.refuses_many(net, ((), (0,), ()))
            else:
                self.assertEqual(sorts.ends_with(net, ((), (0,), ())), [((at,),) for at in range(400)])
        self.assertEqual(len(sorts.ends_with(((ring(4), ring(4), ring(5), ring(5)), ()), ((), (0, 1, 2, 3), ()))), 400)
        self.refuses_many(((ring(5),) * 4, ()), ((), (0, 1, 2, 3), ()))
        self.refuses_many(((ring(5),) * 5, ()), ((), (0, 1, 2, 3, 4), ()))
        self.refuses_many(((FAN,) * 5, ()), PLAIN)
        self.assertEqual(len(sorts.ends_with(((FAN,) * 4, ()), PLAIN)), 256)

    def refuses_many(self, net, given):
        with self.assertRaises(TooMany) as caught:
            sorts.ends_with(net, given)
        self.assertEqual(caught.exception.most, 400)

    def test_claims(self):
        rng = random.Random(58)
        seen = {}
        for net in NETS:
            for given in [PLAIN] + [random_sorts(rng, net) for _ in range(4)]:
                ends = plain_ends_with(net, given)
                for _ in range(4):
                    claim = random_claim(rng, net, rng.choice((1, 2, 3, 5, 8)))
                    for end in rng.sample(ends, min(4, len(ends))):
                        self.assertIs(sorts.holds_with(net, given, claim, end),
                                      plain_holds_with(net, given, claim, end))
                    wrong = [end for end in ends if not plain_holds_with(net, given, claim, end)]
                    found = sorts.counter_with(net, given, claim)
                    if wrong:
                        self.assertIn(found, wrong)
                    else:
                        self.assertIsNone(found)
                    kind = (len(given[2]) > 0, len(wrong) > 0)
                    seen[kind] = seen.get(kind, 0) + 1
        self.assertEqual(len(seen), 4)
        self.assertGreater(min(seen.values()), 20, seen)

    def test_claims_on_a_mad_worker(self):
        # States 0 and 2 show the same letter; a claim on one of them is one on both if the worker is mad.
        net = (((3, (0, 1, 0), (("go", 1), ("go", 2), ("go", 0))),), ())
        mad = ((), (), (0,))
        self.assertIs(sorts.holds_with(net, mad, ("again", 0, (2,)), ((0,),)), True)
        self.assertIs(sorts.holds_with(net, mad, ("again", 0, (2,)), ((1, 2),)), False)
        self.assertIs(sorts.holds_with(net, mad, ("not", ("again", 0, (0, 2))), ((1, 2),)), True)
        self.assertIs(sorts.holds_with(net, mad, ("and", ("again", 0, (0,)), ("again", 0, (1,))), ((0, 1),)), True)
        self.assertIs(sorts.holds_with(net, mad, ("or", ("again", 0, (0,)), ("again", 0, (1,))), ((2,),)), False)
        self.assertIs(sorts.holds_with(net, PLAIN, ("again", 0, (2,)), ((0, 1),)), False)
        self.assertIn(sorts.counter_with(net, mad, ("again", 0, (0,))), [((1,),), ((2,),), ((1, 2),)])
        self.assertIsNone(sorts.counter_with(net, mad, ("or", ("again", 0, (2,)), ("not", ("again", 0, (0,))))))

    def test_spoilers(self):
        rng = random.Random(59)
        seen = set()
        for net in NETS[:50]:
            for _ in range(4):
                claim = random_claim(rng, net, rng.choice((1, 2, 3, 5)))
                sort = rng.choice(SORTS)
                spoiling = [some for some in every_tuple(len(net[0])) if plain_spoils(net, claim, sort, some)]
                least = sorted(some for some in spoiling if not any(set(less) < set(some) for less in spoiling))
                self.assertEqual(sorts.least_spoilers(net, claim, sort), least)
                self.assertEqual(least == [()], not surely_holds(net, claim, "lossy"))
                for many in range(len(net[0]) + 2):
                    self.assertIs(sorts.bears(net, claim, sort, many), not any(len(some) <= many for some in spoiling))
                seen.add((sort, min(len(least), 2), len(least[0]) if least else None))
        for sort in SORTS:
            self.assertLessEqual({(sort, 0, None), (sort, 1, 0), (sort, 1, 1)}, seen)
        self.assertTrue({("flaky", 1, 2), ("stopped", 1, 2), ("mad", 1, 2)} & seen, seen)

    def test_more_workers_than_a_spoiler_need_not_spoil(self):
        # By a worker that stops too early the other one waits for ever, unless it has stopped as well.
        seen = False
        for net in NETS[:25]:
            for worker, row in enumerate(net[0]):
                for state in range(len(row[1])):
                    claim = ("again", worker, (state,))
                    for sort in SORTS:
                        spoiling = [some for some in every_tuple(len(net[0])) if plain_spoils(net, claim, sort, some)]
                        if any(set(some) < set(more) for some in spoiling for more in every_tuple(len(net[0]))
                               if more not in spoiling):
                            seen = True
                            least = sorted(some for some in spoiling
                                           if not any(set(less) < set(some) for less in spoiling))
                            self.assertEqual(sorts.least_spoilers(net, claim, sort), least)
                            self.assertIs(sorts.bears(net, claim, sort, len(net[0])), False)
        self.assertTrue(seen)

    def test_touched_by(self):
        seen = set()
        for net in NETS:
            plain = plain_greatest(plain_ends_with(net, PLAIN))
            for sort in SORTS:
                for worker in range(len(net[0])):
                    ends = plain_greatest(plain_ends_with(net, sorts_of(sort, (worker,))))
                    touched = tuple(other for other in range(len(net[0])) if other != worker
                                    and {end[other] for end in plain} != {end[other] for end in ends})
                    self.assertEqual(sorts.touched_by(net, sort, worker), touched)
                    seen.add((sort, len(touched)))
                    asking = {worker}
                    for _ in net[0]:
                        asking |= {other for other, row in enumerate(net[0])
                                   if any(asking & set(asked_by(code)) for code in row[2])}
                    self.assertLessEqual(set(touched), asking)
        self.assertGreaterEqual(seen, {(sort, count) for sort in SORTS for count in (0, 1)})

    def test_no_worker(self):
        for odd in odd_values() + [2, -1]:
            if type(odd) is not int or not 0 <= odd < 2:
                for sort in SORTS:
                    with self.assertRaises(NoWorker) as caught:
                        sorts.touched_by(LATCH_NET, sort, odd)
                    self.assertIs(caught.exception.worker, odd)

    def test_greatest_sizes(self):
        rng = random.Random(60)
        for _ in range(30):
            net = random_net(rng, most_workers=4, most_states=4, most_letters=3)
            given = random_sorts(rng, net)
            for end in sorts.ends_with(net, given):
                self.assertTrue(plain_end_with(net, given, end, plain_table_with(net, given)))
            claim = random_claim(rng, net, 8)
            counter = sorts.counter_with(net, given, claim)
            if counter is not None:
                self.assertIs(sorts.is_end_with(net, given, counter), True)
                self.assertIs(sorts.holds_with(net, given, claim, counter), False)
            self.assertIs(sorts.counter_with(net, PLAIN, claim) is None, end_without(net, claim, "lossy") is None)
        still = ((STAYS,) * 4, ())
        self.assertEqual(sorts.ends_with(still, ((0,), (1,), (2,))), [((0,), (0,), (0,), (0,))])
        self.assertEqual(sorts.ends_with(((talking(3),) * 2, ()), ((0,), (), ())), [((0, 1, 2), (0, 1, 2))])

    def test_steady_ahead_of_anything_else(self):
        for odd in odd_values():
            check_steady_first(self, [
                lambda net: sorts.touched_by(net, "flaky", odd), lambda net: sorts.touched_by(net, odd, odd),
                lambda net: sorts.table_with(net, odd), lambda net: sorts.shown_with(net, odd, odd),
                lambda net: sorts.is_end_with(net, odd, odd), lambda net: sorts.ends_with(net, odd),
                lambda net: sorts.holds_with(net, odd, odd, odd), lambda net: sorts.counter_with(net, odd, odd),
                lambda net: sorts.bears(net, odd, odd, odd), lambda net: sorts.least_spoilers(net, odd, odd)])

    def test_what_is_returned_is_new(self):
        check_new(self, lambda: sorts.ends_with(LATCH_NET, ((1,), (), ())))
        check_new(self, lambda: sorts.least_spoilers(LATCH_NET, ("not", ("again", 1, (1,))), "flaky"))


if __name__ == "__main__":
    unittest.main()
