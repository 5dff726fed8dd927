"""Tests of the endless runs [6], [48]."""

import copy
import random
import unittest

from oldletters import rounds
from oldletters.codes import steps_of
from oldletters.ends import is_end
from oldletters.errors import NoEnd, NoRound
from oldletters.forms import is_endless
from oldletters.nets import shown_lots
from oldletters.runs import Run, first_fault, run_with
from oldletters.trees import greatest_ends
from tests.samples import (
    LATCH_NET, ROADS, THREE_NET, all_boxes, check_new, doubtful_kinds, exchanged, plain_ends, random_net, small_nets,
    wrong_kinds)

ONE = (2, (0, 1), (("get", 1, (("go", 0), ("go", 1))), ("get", 1, (("go", 0), ("go", 1)))))
OTHER = (2, (1, 0), (("get", 0, (("go", 1), ("go", 0))), ("get", 0, (("go", 1), ("go", 0)))))
PAIR_NET = ((ONE, OTHER), ())
# The way shows both letters of both workers; the round goes through all four states.
WAY = [("step", 0, (0,)), ("step", 1, (0,)), ("step", 0, (2,)), ("step", 1, (1,))]
ROUND = [(0, (1,)), (1, (0,)), (0, (0,)), (1, (1,))]
NETS = small_nets(60) + small_nets(90, steady=True)


def plain_step(code, answers, letters):
    """Return the state to which a code comes by answers that are among these letters, or None."""
    rest = list(answers)
    while code[0] == "get":
        if not rest or rest[0] not in letters[code[1]]:
            return None
        code = code[2][rest.pop(0)]
    return None if rest else code[1]


def plain_end(net, thing):
    """Return the end of an endless run, or the index at which it fails."""
    way, steps = thing
    fault = first_fault(net, way)
    if fault is not None:
        return fault
    run = run_with(net, way)
    begun = run.at()
    at = list(begun)
    letters = [set(entry) for entry in run.lots()]
    come = [set() for _ in begun]
    before = []
    for index, (worker, answers) in enumerate(steps):
        before.append(at[worker])
        at[worker] = plain_step(net[0][worker][2][at[worker]], answers, letters)
        if at[worker] is None:
            return len(way) + index
        letters[worker].add(net[0][worker][1][at[worker]])
        come[worker].add(at[worker])
    again = [{worker[1][state] for state in states} for worker, states in zip(net[0], come)]
    for index, (worker, answers) in enumerate(steps):
        if plain_step(net[0][worker][2][before[index]], answers, again) is None:
            return len(way) + index
    if not all(come) or tuple(at) != begun:
        return len(way) + len(steps)
    return tuple(tuple(sorted(states)) for states in come)


def has_all_steps(net, thing):
    """Tell whether the round of an endless run has each step by the lots shown in its end."""
    way, steps = thing
    at = list(run_with(net, way).at())
    box = plain_end(net, thing)
    lots = shown_lots(net, box)
    done = set()
    letters = [set(range(worker[0])) for worker in net[0]]
    for worker, answers in steps:
        done.add((worker, at[worker], answers))
        at[worker] = plain_step(net[0][worker][2][at[worker]], answers, letters)
    wanted = {(worker, state, answers) for worker, entry in enumerate(box) for state in entry
              for answers, _ in steps_of(net[0][worker][2][state], lots)}
    return wanted <= done


def altered(rng, thing):
    """Return endless runs by form with one deed or round step left out, doubled or exchanged."""
    way, steps = thing
    found = []
    for which, rows in ((0, way), (1, steps)):
        for index in range(len(rows)):
            other = rng.randrange(len(rows))
            swapped = list(rows)
            swapped[index], swapped[other] = rows[other], rows[index]
            for new in (rows[:index] + rows[index + 1:], rows[:index] + [rows[index]] + rows[index:], swapped):
                found.append((new, steps) if which == 0 else (way, new))
    return [one for one in found if one[1]]


class Rounds(unittest.TestCase):
    def check_end_of(self, net, thing):
        """Check end_of and is_full of an endless run by form, and return what a plain look says."""
        wanted = plain_end(net, thing)
        kept = copy.deepcopy(thing)
        if isinstance(wanted, tuple):
            self.assertEqual(rounds.end_of(net, thing), wanted)
            self.assertIs(rounds.is_full(net, thing), has_all_steps(net, thing))
        else:
            with self.assertRaises(NoRound, msg=repr(thing)) as caught:
                rounds.end_of(net, thing)
            self.assertEqual(list(vars(caught.exception).values()), [wanted], thing)
        self.assertEqual(thing, kept)
        return wanted

    def test_example(self):
        self.assertEqual(greatest_ends(PAIR_NET), [((0, 1), (0, 1))])
        self.assertEqual(rounds.end_of(PAIR_NET, (WAY, ROUND)), ((0, 1), (0, 1)))
        self.assertIs(rounds.is_full(PAIR_NET, (WAY, ROUND)), False)
        full = [(0, (0,)), (1, (1,)), (0, (1,)), (0, (1,)), (0, (0,)), (1, (0,)), (1, (0,)), (1, (1,))]
        self.assertIs(rounds.is_full(PAIR_NET, (WAY, full)), True)
        for index in (0, 1, 3, 6):
            self.assertIs(rounds.is_full(PAIR_NET, (WAY, full[:index] + full[index + 1:])), False)

    def check_endless(self, net, box, road):
        thing = rounds.endless_run(net, box, road)
        self.assertTrue(is_endless(net, thing), thing)
        way, steps = thing
        self.assertIsNone(first_fault(net, way))
        run = run_with(net, way)
        self.assertEqual(run.at(), tuple(entry[0] for entry in box))
        for letters, seen in zip(shown_lots(net, box), run.lots()):
            self.assertLessEqual(set(letters), set(seen))
        self.assertEqual(self.check_end_of(net, thing), box)
        # Done twice, deed by deed, each get answered by the latest showing.
        come = [set() for _ in box]
        for worker, answers in steps + steps:
            code = net[0][worker][2][run.at()[worker]]
            moments = []
            for letter in answers:
                moments.append(run.latest(code[1], letter))
                code = code[2][letter]
            come[worker].add(run.step(worker, tuple(moments)))
        self.assertEqual(tuple(tuple(sorted(states)) for states in come), box)
        self.assertEqual(run.at(), tuple(entry[0] for entry in box))
        if road == "just":
            self.assertIs(rounds.is_full(net, thing), True)
        return thing

    def test_endless_runs_of_all_boxes(self):
        seen = {}
        for net in NETS:
            for road in ROADS:
                right = plain_ends(net, road)
                for box in all_boxes(net):
                    if box in right:
                        self.check_endless(net, box, road)
                    else:
                        with self.assertRaises(NoEnd) as caught:
                            rounds.endless_run(net, box, road)
                        self.assertIs(caught.exception.box, box)
                    kind = (road, bool(net[1]), box in right)
                    seen[kind] = seen.get(kind, 0) + 1
        self.assertEqual(len(seen), 8)
        self.assertGreater(min(seen.values()), 50)

    def test_steady_worker_far_from_its_least_state(self):
        # The steady worker must show 1 and 2 before it can be at 3, and has to go round to its least state.
        ring = tuple(("go", (at + 1) % 5) for at in range(5))
        reads = ("get", 0, (("go", 0),) * 3 + (("go", 1),))
        net = (((4, (0, 1, 2, 3, 1), ring), (2, (0, 1), (reads, ("go", 0)))), (0,))
        self.check_endless(net, ((0, 1, 2, 3, 4), (0, 1)), "just")
        later = (((4, (0, 1, 2, 3, 1), ring[:3] + (("go", 4), ("go", 2))), net[0][1]), (0,))
        self.check_endless(later, ((2, 3, 4), (0, 1)), "just")
        self.check_endless(later, ((2, 3, 4), (0,)), "lossy")

    def test_larger_nets(self):
        rng = random.Random(48)
        for _ in range(40):
            net = random_net(rng, most_workers=5, most_states=5, most_letters=4, depth=3, steady=True)
            free = (net[0], ())
            for end in greatest_ends(free)[:4]:
                self.check_endless(free, end, "lossy")
                if is_end(free, end, "just"):
                    self.check_endless(free, end, "just")

    def test_each_fault(self):
        for thing, index in (
                ((WAY[:1] + [("step", 0, (9,))] + WAY[1:], ROUND), 1),
                ((WAY + [("step", 1, ())], ROUND), 4),
                (([("step", 0, (1,))] + WAY, [(0, ())]), 0),
                ((WAY, [(0, ())] + ROUND), 4), ((WAY, ROUND + [(1, (0, 0))]), 8), ((WAY, ROUND + [(1, (2,))]), 8),
                (([], [(0, (1,)), (0, (0,))]), 1), (([], [(0, (0,)), (1, (0,))]), 0),
                # All can be done, but a letter is not shown again, though it has been in the way or in the round.
                ((WAY, [(0, (0,)), (1, (1,))]), 4), ((WAY, [(0, (1,)), (0, (0,)), (1, (1,))]), 5),
                (([], [(0, (1,)), (1, (0,)), (0, (0,))]), 0), ((WAY, ROUND[:3]), 4), ((WAY, ROUND[1:]), 6),
                # All can be done, and is shown again, but not all come round.
                ((WAY, [(0, (1,)), (1, (1,))]), 6), ((WAY, ROUND + [(1, (0,))]), 9)):
            self.assertEqual(self.check_end_of(PAIR_NET, thing), index)
        alone = (((1, (0, 0), (("go", 1), ("go", 0))), (1, (0,), (("go", 0),))), ())
        self.assertEqual(self.check_end_of(alone, ([], [(0, ()), (0, ())])), 2)
        self.assertEqual(self.check_end_of(alone, ([("fall", 0)], [(0, ()), (1, ())])), 3)
        self.assertEqual(self.check_end_of(alone, ([], [(0, ()), (1, ()), (0, ())])), ((0, 1), (0,)))

    def test_what_cannot_be_done_comes_first(self):
        # The answer of the first round step is not shown again; the last one has too many answers.
        self.assertEqual(self.check_end_of(PAIR_NET, (WAY, [(0, (0,)), (1, (1,)), (1, (1, 0))])), 6)
        self.assertEqual(self.check_end_of(PAIR_NET, (WAY[:1] + [("fall", 0)] * 2, [(0, (0,)), (0, (0,))])), 3)
        # A letter that is shown only later in the round has not been shown before.
        self.assertEqual(self.check_end_of(PAIR_NET, ([], [(0, (0,)), (0, (1,)), (1, (0,))])), 0)

    def test_changed_runs(self):
        rng = random.Random(49)
        kinds = {"way": 0, "round": 0, "all": 0, "end": 0}
        for net in small_nets(30, steady=True) + small_nets(20) + [PAIR_NET]:
            for road in ROADS:
                ends = plain_ends(net, road)
                for box in rng.sample(ends, min(len(ends), 2)):
                    thing = rounds.endless_run(net, box, road)
                    changed = altered(rng, thing)
                    others = exchanged(thing, doubtful_kinds) + exchanged(thing, wrong_kinds)
                    changed += [one for one in rng.sample(others, min(len(others), 150)) if is_endless(net, one)]
                    for other in changed:
                        found = self.check_end_of(net, other)
                        if isinstance(found, tuple):
                            kinds["end"] += 1
                            self.assertIs(is_end(net, found, "lossy"), True)
                        elif found < len(other[0]):
                            kinds["way"] += 1
                        else:
                            kinds["round" if found < len(other[0]) + len(other[1]) else "all"] += 1
        self.assertGreater(min(kinds.values()), 50, kinds)

    def random_endless(self, rng, net):
        """Return an endless run by form in which all can be done, made by chance."""
        run = Run(net)
        for _ in range(rng.randrange(12)):
            worker = rng.randrange(len(net[0]))
            if worker not in net[1] and rng.random() < 0.2:
                run.fall(worker)
            else:
                run.go_to(worker, rng.choice(run.can_come(worker)))
        way = run.deeds()
        steps = []
        for _ in range(rng.randint(1, 10)):
            worker = rng.randrange(len(net[0]))
            code = net[0][worker][2][run.at()[worker]]
            answers, state = rng.choice(steps_of(code, run.lots()))
            run.go_to(worker, state)
            steps.append((worker, answers))
        return way, steps

    def test_ends_of_runs_by_chance_are_ends(self):
        rng = random.Random(50)
        seen = {"fault": 0, "lossy": 0, "just": 0}
        for net in small_nets(50, steady=True) + small_nets(50):
            lossy, just = plain_ends(net, "lossy"), plain_ends(net, "just")
            for _ in range(60):
                thing = self.random_endless(rng, net)
                found = self.check_end_of(net, thing)
                if not isinstance(found, tuple):
                    seen["fault"] += 1
                    continue
                self.assertIn(found, lossy)
                if rounds.is_full(net, thing):
                    self.assertIn(found, just)
                    seen["just"] += 1
                else:
                    seen["lossy"] += 1
        self.assertGreater(min(seen.values()), 50, seen)

    def test_is_full_wants_each_answer(self):
        # Both letters lead to the same state, but are two steps.
        code = ("get", 1, (("go", 0), ("go", 0)))
        net = (((1, (0,), (code,)), (2, (0, 1), (("go", 1), ("go", 0)))), ())
        turn = [(1, ()), (1, ())]
        self.assertIs(rounds.is_full(net, ([], turn + [(0, (0,))])), False)
        self.assertIs(rounds.is_full(net, ([], turn + [(0, (1,))])), False)
        self.assertIs(rounds.is_full(net, ([], turn + [(0, (1,)), (0, (0,))])), True)
        leaves = (((1, (0, 0), (("get", 1, (("go", 0), ("go", 1))), ("go", 1))), net[0][1]), ())
        self.assertIs(rounds.is_full(leaves, ([], turn + [(0, (0,))])), False)
        with self.assertRaises(NoEnd):
            rounds.endless_run(leaves, ((0,), (0, 1)), "just")
        self.check_endless(leaves, ((0,), (0, 1)), "lossy")

    def test_what_is_returned_is_new(self):
        for road in ROADS:
            check_new(self, lambda: rounds.endless_run(PAIR_NET, ((0, 1), (0, 1)), road))
        check_new(self, lambda: rounds.endless_run(LATCH_NET, ((1,), (0,)), "just"))
        for box in all_boxes(THREE_NET):
            if is_end(THREE_NET, box, "just"):
                self.check_endless(THREE_NET, box, "just")


if __name__ == "__main__":
    unittest.main()
