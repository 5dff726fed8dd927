"""Tests of the rows of letters that can be seen of watched workers [75]."""

import copy
import random
import unittest

from oldletters import rows
from oldletters.errors import IsSteady, TooMany, Unlike
from oldletters.runs import Run, run_with
from tests.samples import (
    LATCH_NET, LATCH, TURN, all_vectors, check_new, every_tuple, plain_results, random_net, small_nets)

CHAIN = [tuple(("go", min(at + 1, last)) for at in range(last + 1)) for last in range(6)]


def chain(states, letters=None):
    """Return a worker that goes through so many states and stays at the last one; it shows their numbers."""
    shown = tuple(range(states)) if letters is None else letters
    return (max(shown) + 1, shown, CHAIN[states - 1])


def row_of_run(net, watched, deeds):
    """Return the row of a run, deed by deed."""
    run = Run(net)
    row = []
    for deed in deeds:
        state = run.do(deed)
        if deed[1] in watched:
            row.append((deed[1], net[0][deed[1]][1][state]))
    return row


def plain_begun(net):
    """Return the set with the moment 0: (vector, letters shown so far)."""
    return {(tuple(0 for _ in net[0]), tuple(frozenset([worker[1][0]]) for worker in net[0]))}


def with_deed(net, moment, worker, state):
    """Return the moment behind a deed by which the worker comes to a state."""
    vector, seen = moment
    letters = seen[worker] | {net[0][worker][1][state]}
    return (vector[:worker] + (state,) + vector[worker + 1:], seen[:worker] + (letters,) + seen[worker + 1:])


def states_behind(net, moment, worker):
    """Return the states to which a deed of the worker can come."""
    vector, seen = moment
    return plain_results(net[0][worker][2][vector[worker]], seen) | (set() if worker in net[1] else {0})


def plain_unseen(net, watched, moments):
    """Return all moments to which deeds of the workers that are not watched lead from these."""
    found = set(moments)
    waiting = list(moments)
    while waiting:
        moment = waiting.pop()
        for worker in range(len(net[0])):
            if worker not in watched:
                for state in states_behind(net, moment, worker):
                    further = with_deed(net, moment, worker, state)
                    if further not in found:
                        found.add(further)
                        waiting.append(further)
    return found


def plain_behind(net, watched, row):
    """Return the moments behind all runs with this row."""
    moments = plain_unseen(net, watched, plain_begun(net))
    for worker, letter in row:
        moments = {with_deed(net, moment, worker, state) for moment in moments
                   for state in states_behind(net, moment, worker) if net[0][worker][1][state] == letter}
        moments = plain_unseen(net, watched, moments)
    return moments


def watchings(net):
    """Return all tuples of workers with all steady ones."""
    return [some for some in every_tuple(len(net[0])) if set(net[1]) <= set(some)]


def drawn_row(rng, net, watched, most):
    """Return the row of a run made by chance, with falls and letters of any age."""
    run = Run(net)
    row = []
    for _ in range(40):
        if len(row) == most:
            break
        worker = rng.randrange(len(net[0]))
        if worker not in net[1] and rng.random() < 0.25:
            run.fall(worker)
        else:
            code = net[0][worker][2][run.at()[worker]]
            moments = []
            while code[0] == "get":
                moment, letter = rng.choice(run.shown(code[1]))
                moments.append(moment)
                code = code[2][letter]
            run.step(worker, tuple(moments))
        if worker in watched:
            row.append((worker, net[0][worker][1][run.at()[worker]]))
    return row


def changed_row(rng, net, watched, row):
    """Return the row with one tuple exchanged."""
    at = rng.randrange(len(row))
    worker = rng.choice(watched)
    return row[:at] + [(worker, rng.randrange(net[0][worker][0]))] + row[at + 1:]


def plain_pairs(one, other, watched, most):
    """Return the rows of at most so many tuples that can be in both nets, with the moments behind them, and those
    with one tuple more that can be in exactly one."""
    begun = tuple(frozenset(plain_behind(net, watched, [])) for net in (one, other))
    both = [((), begun)]
    parting = []
    for row, pair in both:
        if len(row) == most:
            continue
        for worker in watched:
            for letter in range(one[0][worker][0]):
                behind = []
                for net, moments in zip((one, other), pair):
                    come = {with_deed(net, moment, worker, state) for moment in moments
                            for state in states_behind(net, moment, worker) if net[0][worker][1][state] == letter}
                    behind.append(frozenset(plain_unseen(net, watched, come)))
                longer = row + ((worker, letter),)
                if behind[0] and behind[1]:
                    both.append((longer, tuple(behind)))
                elif behind[0] or behind[1]:
                    parting.append(longer)
    return both, parting


class Rows(unittest.TestCase):
    def check_row(self, net, watched, row):
        """Check all that is asked of one net and one row, and return the first wrong index."""
        kept = copy.deepcopy(row)
        wrong = [index for index in range(len(row)) if not plain_behind(net, watched, row[:index + 1])]
        self.assertEqual(rows.first_wrong_at(net, watched, row), wrong[0] if wrong else None)
        self.assertIs(rows.row_can_be(net, watched, row), not wrong)
        deeds = rows.run_with_row(net, watched, row)
        box = rows.box_behind(net, watched, row)
        known = rows.known_behind(net, watched, row)
        if wrong:
            self.assertEqual((deeds, box, known), (None, None, None))
        else:
            self.assertEqual(row_of_run(net, watched, deeds), row)
            vectors = sorted({vector for vector, _ in plain_behind(net, watched, row)})
            # All vectors of the box, and no others, are reached.
            self.assertEqual([vector for vector in all_vectors(net)
                              if all(state in entry for state, entry in zip(vector, box))], vectors)
            self.assertEqual(known, tuple(entry[0] if len(entry) == 1 else None for entry in box))
        self.assertEqual(row, kept)
        return wrong[0] if wrong else None

    def test_rows_of_drawn_runs_and_changed_ones(self):
        rng = random.Random(75)
        seen = {"right": 0, "wrong": 0, "late": 0, "nobody": 0, "all": 0}
        for net in small_nets(40) + small_nets(60, steady=True):
            for watched in watchings(net):
                row = drawn_row(rng, net, watched, rng.randint(0, 6))
                self.assertIsNone(self.check_row(net, watched, row))
                seen["right"] += 1
                seen["nobody"] += not watched
                seen["all"] += len(watched) == len(net[0])
                if row:
                    wrong = self.check_row(net, watched, changed_row(rng, net, watched, row))
                    seen["wrong"] += wrong is not None
                    seen["late"] += bool(wrong)
        self.assertGreater(min(seen.values()), 20, seen)

    def test_by_hand(self):
        # The latch cannot be at 1 before turn showed 1; when it has been, it shows 0 again only by a fall.
        self.assertIs(rows.row_can_be(LATCH_NET, (0, 1), [(0, 1)]), False)
        self.assertEqual(rows.first_wrong_at(LATCH_NET, (0, 1), [(0, 0), (0, 1), (1, 1)]), 1)
        row = [(1, 1), (0, 1), (0, 0), (0, 1)]
        self.assertEqual(rows.known_behind(LATCH_NET, (0, 1), row), (1, 1))
        self.assertEqual(rows.run_with_row(LATCH_NET, (0, 1), row)[2], ("fall", 0))
        # Nobody sees turn here.
        self.assertEqual(rows.box_behind(LATCH_NET, (0,), [(0, 1)]), ((1,), (0, 1)))
        self.assertEqual(rows.known_behind(LATCH_NET, (0,), [(0, 1)]), (1, None))
        steady = ((LATCH, TURN), (0,))
        self.assertEqual(rows.first_wrong_at(steady, (0, 1), row), 2)
        self.assertIsNone(rows.run_with_row(steady, (0, 1), row))
        # A letter of any age: turn has long shown 0 again.
        self.assertEqual(len(rows.run_with_row(LATCH_NET, (0, 1), [(1, 1), (1, 0), (1, 0), (0, 1)])), 4)

    def test_nobody_watched_and_the_empty_row(self):
        self.assertEqual(rows.box_behind(LATCH_NET, (), []), ((0, 1), (0, 1)))
        self.assertEqual(rows.known_behind(LATCH_NET, (), []), (None, None))
        self.assertIs(rows.row_can_be(LATCH_NET, (), []), True)
        self.assertEqual(rows.run_with_row(LATCH_NET, (), []), [])
        for watched in ((), (0,), (1,), (0, 1)):
            self.assertIsNone(rows.first_wrong_at(LATCH_NET, watched, []))
            self.assertIsNone(rows.parting_row(LATCH_NET, LATCH_NET, watched))
        self.assertEqual(rows.box_behind(LATCH_NET, (1,), []), ((0,), (0,)))
        self.assertEqual(rows.box_behind(LATCH_NET, (0,), []), ((0,), (0, 1)))
        self.assertEqual(rows.known_behind(LATCH_NET, (0, 1), []), (0, 0))

    def test_steady_workers_must_be_watched(self):
        net = (LATCH_NET[0] * 2, (1, 3))
        calls = [lambda one, watched, call=call: call(one, watched, [(9, 9)]) for call in (
            rows.row_can_be, rows.first_wrong_at, rows.run_with_row, rows.box_behind, rows.known_behind)]
        for call in calls + [lambda one, watched: rows.parting_row(one, (one[0], ()), watched),
                             lambda one, watched: rows.parting_row((one[0], ()), one, watched)]:
            for watched, least in (((), 1), ((0,), 1), ((1,), 3), ((0, 1, 2), 3), ((3,), 1), ((0, 2, 3), 1)):
                with self.assertRaises(IsSteady) as caught:
                    call(net, watched)
                self.assertEqual(caught.exception.worker, least)

    def test_larger_nets(self):
        rng = random.Random(76)
        for _ in range(60):
            net = random_net(rng, most_workers=5, most_states=5, most_letters=4, depth=3, steady=True)
            watched = rng.choice(watchings(net))
            row = drawn_row(rng, net, watched, 16)
            self.assertIs(rows.row_can_be(net, watched, row), True)
            deeds = rows.run_with_row(net, watched, row)
            self.assertEqual(row_of_run(net, watched, deeds), row)
            box = rows.box_behind(net, watched, row)
            self.assertTrue(all(state in entry for state, entry in zip(run_with(net, deeds).at(), box)))

    def test_parting_rows_by_hand(self):
        once = (2, (0, 1, 1), (("go", 1), ("go", 2), ("go", 0)))
        turn = (2, (0, 1), (("go", 1), ("go", 0)))
        one, other = ((once,), (0,)), ((turn,), (0,))
        self.assertEqual(rows.parting_row(one, other, (0,)), [(0, 1), (0, 0)])
        # Who is not steady can fall at once.
        self.assertEqual(rows.parting_row(one, (other[0], ()), (0,)), [(0, 0)])
        self.assertIsNone(rows.parting_row((one[0], ()), (one[0], ()), ()))
        # What differs is not seen.
        self.assertIsNone(rows.parting_row((one[0], ()), (other[0], ()), ()))
        # The least one of those that are as short.
        long = (3, (0, 1, 2), (("get", 0, (("go", 1), ("go", 2), ("go", 2))), ("go", 1), ("go", 2)))
        short = (3, (0, 1, 2), (("go", 0), ("go", 1), ("go", 2)))
        self.assertEqual(rows.parting_row(((long, long), ()), ((short, short), ()), (0, 1)), [(0, 1)])
        self.assertEqual(rows.parting_row(((short, long), ()), ((short, short), ()), (0, 1)), [(1, 1)])
        self.assertEqual(rows.parting_row(((short, short), ()), ((short, long), ()), (0, 1)), [(1, 1)])
        # Letters at moment 0 are not seen.
        self.assertIsNone(rows.parting_row((((2, (0, 1), (("go", 1), ("go", 1))),), (0,)),
                                           (((2, (1,), (("go", 0),)),), (0,)), (0,)))

    def test_unlike_comes_first(self):
        alone = (((2, (0, 1), (("go", 0), ("go", 0))),), (0,))
        wide = (((2, (0, 1), (("go", 0), ("go", 0))), (3, (0,), (("go", 0),))), (0, 1))
        for one, other, watched in ((LATCH_NET, alone, ()), (alone, LATCH_NET, ()), (wide, LATCH_NET, (1,)),
                                    (LATCH_NET, wide, (0, 1)), ((LATCH_NET[0], (0, 1)), wide, (1,))):
            with self.assertRaises(Unlike):
                rows.parting_row(one, other, watched)
        # Workers that are not watched may have other numbers of letters.
        with self.assertRaises(IsSteady) as caught:
            rows.parting_row(LATCH_NET, wide, (0,))
        self.assertEqual(caught.exception.worker, 1)
        self.assertIsNone(rows.parting_row((wide[0], ()), (wide[0][:1] + (TURN,), ()), (0,)))
        with self.assertRaises(IsSteady) as caught:
            rows.parting_row((LATCH_NET[0], (1,)), (LATCH_NET[0], (0,)), ())
        self.assertEqual(caught.exception.worker, 1)

    def test_parting_rows_against_all_rows(self):
        rng = random.Random(77)
        seen = {"none": 0, "short": 0, "long": 0}
        for net in small_nets(70) + small_nets(70, steady=True):
            worker = rng.randrange(len(net[0]))
            letters, shown, codes = net[0][worker]
            state = rng.randrange(len(shown))
            goal = ("go", rng.randrange(len(shown)))
            changed = (letters, shown, codes[:state] + (goal,) + codes[state + 1:])
            other = (net[0][:worker] + (changed,) + net[0][worker + 1:], net[1])
            watched = rng.choice(watchings(net))
            most = 4 if len(watched) < 2 else 3
            both, parting = plain_pairs(net, other, watched, most)
            self.assertEqual(parting, sorted(parting, key=lambda row: (len(row), row)))
            for pair in ((net, other), (other, net)):
                found = rows.parting_row(*pair, watched)
                if parting:
                    self.assertEqual(found, list(parting[0]))
                elif found is not None:
                    self.assertGreater(len(found), most)
                    self.assertNotEqual(*[rows.row_can_be(one, watched, found) for one in pair])
            seen["none" if found is None else "short" if len(found) < 2 else "long"] += 1
        self.assertGreater(min(seen.values()), 10, seen)

    def test_300_pairs_of_situations(self):
        # Going on, or to the beginning: the letters so far and the state tell k * (k + 1) / 2 situations apart.
        def net(*workers):
            return (tuple(workers), ())
        ten, three, six, fifteen = chain(4), chain(2), chain(3), chain(5)
        exactly = net(ten, ten, three)
        self.assertIsNone(rows.parting_row(exactly, exactly, (0, 1, 2)))
        for more in (net(ten, ten, six), net(fifteen, ten, three), net(fifteen, six, six)):
            with self.assertRaises(TooMany) as caught:
                rows.parting_row(more, more, (0, 1, 2))
            self.assertEqual(caught.exception.most, 300)
            # They are fewer if less is watched.
            self.assertIsNone(rows.parting_row(more, more, (0, 1)))
        # Steady chains have as many situations as states.
        steady = ((chain(5), chain(5), chain(4), chain(3)), (0, 1, 2, 3))
        self.assertIsNone(rows.parting_row(steady, steady, (0, 1, 2, 3)))
        steady = ((chain(5), chain(5), chain(4), chain(4)), (0, 1, 2, 3))
        with self.assertRaises(TooMany):
            rows.parting_row(steady, steady, (0, 1, 2, 3))

    def test_too_many_pairs_although_a_row_parts(self):
        ten, six = chain(4), chain(3)
        still = (3, (0, 1, 2), (("go", 1), ("go", 2), ("go", 1)))
        one, other = ((ten, ten, six), ()), ((ten, ten, still), ())
        with self.assertRaises(TooMany):
            rows.parting_row(one, other, (0, 1, 2))
        self.assertEqual(rows.parting_row(one, other, (2,)), [(2, 1), (2, 2), (2, 1)])
        # The pairs are those behind rows that can be in both nets.
        stops = (4, (0, 1, 2, 3), (("go", 0), ("go", 1), ("go", 1), ("go", 1)))
        self.assertEqual(rows.parting_row(one, ((stops, ten, six), ()), (0, 1, 2)), [(0, 1)])

    def test_what_is_returned_is_new(self):
        row = [(1, 1), (0, 1)]
        for call in (rows.run_with_row, rows.box_behind, rows.known_behind):
            check_new(self, lambda: call(LATCH_NET, (0, 1), row))
        still = (2, (0, 1), (("go", 0), ("go", 1)))
        check_new(self, lambda: rows.parting_row(LATCH_NET, ((LATCH, still), ()), (0, 1)))


if __name__ == "__main__":
    unittest.main()
