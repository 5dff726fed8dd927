"""Tests of the runs [5], [40]."""

import random
import unittest

from oldletters.codes import code_under, results_of, steps_of
from oldletters.errors import IsSteady, NoMoment, NoState, NotShown, Nothing, NoWorker, OldError, Wrong
from oldletters.runs import Run, first_fault, run_with, vectors_along
from tests.samples import (
    BIG_NET, LATCH_NET, LOOK, SELF_NET, THREE_NET, doubtful_kinds, exchanged, odd_values, random_nets, wrong_kinds)

EXAMPLE_NET = (((2, (0, 1), (LOOK, LOOK)), (2, (0, 1), (("go", 1), ("go", 0)))), ())
DEEDS = [("step", 1, ()), ("step", 0, (1,)), ("step", 0, (0,)), ("fall", 1)]
NO_INTEGERS = [odd for odd in odd_values() if type(odd) is not int]
NO_WORKERS = [2, -1, 7, 10 ** 39, -(10 ** 39)]
NO_MOMENTS = [odd for odd in odd_values() if type(odd) is not tuple or any(type(part) is not int for part in odd)]


def has_form(deed):
    """Tell whether a value is a deed, with any integers."""
    if type(deed) is not tuple or len(deed) not in (2, 3) or type(deed[1]) is not int:
        return False
    if len(deed) == 2:
        return deed[0] == "fall"
    return deed[0] == "step" and type(deed[2]) is tuple and all(type(part) is int for part in deed[2])


def all_of(run):
    """Return all that a run tells."""
    workers = range(len(run.net()[0]))
    return (run.net(), run.now(), run.deeds(), run.at(), run.lots(), [run.shown(worker) for worker in workers],
            [run.can_come(worker) for worker in workers])


class PlainRun:
    """A run as the document tells it, with a row (moment, worker, state) for each showing."""

    def __init__(self, net):
        self.net = net
        self.rows = [(0, worker, 0) for worker in range(len(net[0]))]
        self.deeds = []

    def state(self, worker):
        return [state for _, one, state in self.rows if one == worker][-1]

    def shown(self, worker):
        return [(moment, self.net[0][worker][1][state]) for moment, one, state in self.rows if one == worker]

    def lots(self):
        return tuple(tuple(sorted({letter for _, letter in self.shown(worker)}))
                     for worker in range(len(self.net[0])))

    def fault(self, deed):
        """Return the error of the deed as (class, value), or the state to which it comes."""
        worker = deed[1]
        if worker not in range(len(self.net[0])):
            return (NoWorker, worker)
        if deed[0] == "fall":
            return (IsSteady, worker) if worker in self.net[1] else 0
        code = self.net[0][worker][2][self.state(worker)]
        for index in range(len(deed[2]) + 1):
            if code[0] == "go":
                return (NoMoment, index) if index < len(deed[2]) else code[1]
            if index == len(deed[2]):
                return (NoMoment, index)
            letters = dict(self.shown(code[1]))
            if deed[2][index] not in letters:
                return (NotShown, deed[2][index])
            code = code_under(code, (letters[deed[2][index]],))

    def do(self, deed):
        self.rows.append((len(self.deeds) + 1, deed[1], self.fault(deed)))
        self.deeds.append(deed)


class Runs(unittest.TestCase):
    def refuses(self, run, error, value, call, *things):
        """Check the error of a call, and that it left all of the run as it was."""
        before = all_of(run)
        with self.assertRaises(error, msg=repr(things)) as caught:
            call(*things)
        values = list(vars(caught.exception).values())
        self.assertEqual(values, [] if value is None else [value])
        self.assertEqual([type(one) for one in values], [] if value is None else [type(value)])
        self.assertEqual(all_of(run), before)

    def test_example(self):
        run = Run(EXAMPLE_NET)
        self.assertEqual([run.step(1, ()), run.step(0, (1,)), run.step(0, (0,)), run.fall(1)], [1, 1, 0, None])
        self.assertEqual([run.at(), run.shown(1), run.go_to(0, 0)],
                         [(0, 0), [(0, 0), (1, 1), (4, 0)], ("step", 0, (4,))])

    def test_moment_0(self):
        run = Run(THREE_NET)
        self.assertEqual((run.net(), run.now(), run.deeds(), run.at()), (THREE_NET, 0, [], (0, 0, 0)))
        self.assertEqual(run.lots(), ((0,), (0,), (1,)))
        self.assertEqual([run.shown(worker) for worker in range(3)], [[(0, 0)], [(0, 0)], [(0, 1)]])
        self.assertEqual([run.latest(2, 1), run.latest(2, 0), run.latest(2, 10 ** 39), run.latest(2, -1)],
                         [0, None, None, None])

    def test_wrong_net(self):
        for odd in odd_values():
            with self.assertRaises(Wrong) as caught:
                Run(odd)
            self.assertEqual(caught.exception.place, 0)
        for bad in exchanged(LATCH_NET, wrong_kinds):
            with self.assertRaises(Wrong):
                Run(bad)
        Run(BIG_NET)

    def test_errors_of_step(self):
        run = run_with(EXAMPLE_NET, DEEDS)
        for odd in NO_INTEGERS:
            self.refuses(run, Wrong, 0, run.step, odd, ())
            self.refuses(run, Wrong, 0, run.step, odd, odd)
        for odd in NO_MOMENTS:
            self.refuses(run, Wrong, 1, run.step, 0, odd)
            self.refuses(run, Wrong, 1, run.step, 9, odd)
        for worker in NO_WORKERS:
            self.refuses(run, NoWorker, worker, run.step, worker, (99, 99))
        self.refuses(run, NoMoment, 0, run.step, 0, ())
        self.refuses(run, NoMoment, 1, run.step, 0, (0, 0))
        self.refuses(run, NoMoment, 1, run.step, 0, (4, 99, -1))
        self.refuses(run, NoMoment, 0, run.step, 1, (99,))
        for moment in (2, 3, 5, 6, -1, -4, 10 ** 39, -(10 ** 39)):
            self.refuses(run, NotShown, moment, run.step, 0, (moment,))
            self.refuses(run, NotShown, moment, run.step, 0, (moment, 0))
        self.assertEqual(run.step(0, (1,)), 1)

    def test_errors_of_two_gets_in_order(self):
        two = ("get", 1, (("get", 0, (("go", 0),)), ("get", 1, (("go", 0), ("get", 1, (("go", 0), ("go", 0)))))))
        net = (((1, (0,), (two,)), (2, (0, 1), (("go", 1), ("go", 0)))), ())
        run = run_with(net, [("step", 1, ()), ("step", 0, (0, 0))])
        self.refuses(run, NoMoment, 1, run.step, 0, (0,))
        self.refuses(run, NotShown, 1, run.step, 0, (0, 1))
        self.refuses(run, NotShown, 2, run.step, 0, (2, 2))
        self.refuses(run, NotShown, 2, run.step, 0, (1, 2, 2))
        self.refuses(run, NoMoment, 2, run.step, 0, (1, 1))
        self.refuses(run, NoMoment, 3, run.step, 0, (1, 1, 1, -1))
        self.refuses(run, NoMoment, 2, run.step, 0, (0, 2, -1))
        # Two gets of one worker may have different answers.
        self.assertEqual(run.step(0, (1, 0)), 0)
        self.assertEqual(run.now(), 3)

    def test_moment_of_the_deed_itself_is_too_late(self):
        run = Run(SELF_NET)
        self.refuses(run, NotShown, 1, run.step, 0, (1,))
        self.assertEqual(run.step(0, (0,)), 0)
        self.assertEqual(run.step(0, (1,)), 0)

    def test_errors_of_fall(self):
        run = run_with((EXAMPLE_NET[0], (1,)), DEEDS[:3])
        for odd in NO_INTEGERS:
            self.refuses(run, Wrong, 0, run.fall, odd)
        for worker in NO_WORKERS:
            self.refuses(run, NoWorker, worker, run.fall, worker)
        self.refuses(run, IsSteady, 1, run.fall, 1)
        self.assertIsNone(run.fall(0))
        self.assertEqual((run.at(), run.shown(0)[-1], run.deeds()[-1]), ((0, 1), (4, 0), ("fall", 0)))

    def test_do(self):
        run = Run(EXAMPLE_NET)
        self.assertEqual([run.do(deed) for deed in DEEDS], [1, 1, 0, 0])
        self.assertEqual(run.deeds(), DEEDS)
        for odd in odd_values():
            self.refuses(run, Wrong, 0, run.do, odd)
        for deed in (("step", 0, (1,)), ("fall", 0)):
            for bad in exchanged(deed, wrong_kinds):
                if not has_form(bad):
                    self.refuses(run, Wrong, 0, run.do, bad)
        for bad in (("fall", 0, ()), ("step", 0), ("step", 0, [1]), ["fall", 0], ("fall", True), ("fall",), (),
                    ("step", False, (1,)), ("step", 0, (True,)), ("go", 0), ("stepfall", 0)):
            self.refuses(run, Wrong, 0, run.do, bad)
        self.refuses(run, NoWorker, -1, run.do, ("fall", -1))
        self.refuses(run, NoWorker, 2, run.do, ("step", 2, (-1,)))
        self.refuses(run, NoMoment, 0, run.do, ("step", 0, ()))
        self.refuses(run, NotShown, -2, run.do, ("step", 0, (-2, 0)))
        steady = Run((EXAMPLE_NET[0], (0, 1)))
        self.refuses(steady, IsSteady, 1, steady.do, ("fall", 1))

    def test_go_to(self):
        run = run_with(EXAMPLE_NET, DEEDS)
        for odd in NO_INTEGERS:
            self.refuses(run, Wrong, 0, run.go_to, odd, odd)
            self.refuses(run, Wrong, 1, run.go_to, 0, odd)
            self.refuses(run, Wrong, 1, run.go_to, 5, odd)
        for worker in NO_WORKERS:
            self.refuses(run, NoWorker, worker, run.go_to, worker, 99)
        for state in (0, 2, -1, 10 ** 39):
            self.refuses(run, NoState, state, run.go_to, 1, state)
        self.assertEqual(run.go_to(0, 1), ("step", 0, (1,)))
        self.assertEqual((run.at(), run.deeds()[4:]), ((1, 0), [("step", 0, (1,))]))
        self.assertEqual(run.go_to(1, 1), ("step", 1, ()))
        self.assertEqual(run.go_to(0, 1), ("step", 0, (6,)))
        self.assertEqual(run.go_to(0, 0), ("step", 0, (4,)))

    def test_go_to_takes_the_least_answers(self):
        code = ("get", 1, (("get", 1, (("go", 1), ("go", 2))), ("go", 2)))
        net = (((1, (0, 0, 0), (code,) * 3), (2, (1, 0), (("go", 1), ("go", 0)))), ())
        run = run_with(net, [("step", 1, ()), ("step", 1, ()), ("fall", 1)])
        self.assertEqual(run.go_to(0, 2), ("step", 0, (1, 3)))
        self.assertEqual(run.go_to(0, 1), ("step", 0, (1, 1)))

    def test_undo_of_everything(self):
        run = Run(EXAMPLE_NET)
        kept = [all_of(run)]
        for deed in DEEDS:
            run.do(deed)
            kept.append(all_of(run))
        for deed in reversed(DEEDS):
            self.assertEqual(all_of(run), kept.pop())
            self.assertEqual(run.undo(), deed)
        self.assertEqual(all_of(run), kept.pop())
        self.refuses(run, Nothing, None, run.undo)
        # What was shown by a deed that was undone cannot be read.
        self.refuses(run, NotShown, 1, run.step, 0, (1,))

    def test_other_deeds_behind_an_undo(self):
        rng = random.Random(43)
        for net in random_nets(20, steady=True):
            run = self.random_run(rng, net, 12)[0]
            other = self.random_run(rng, net, 12)[0]
            for many in range(12, 0, -1):
                run.undo()
                again = run.copied()
                for deed in other.deeds():
                    if first_fault(net, again.deeds() + [deed]) is None:
                        run.do(deed)
                        again.do(deed)
                        self.assertEqual(all_of(run), all_of(run_with(net, again.deeds())))
                while run.now() >= many:
                    run.undo()

    def test_reading(self):
        run = run_with(EXAMPLE_NET, DEEDS)
        for odd in NO_INTEGERS:
            self.refuses(run, Wrong, 0, run.shown, odd)
            self.refuses(run, Wrong, 0, run.can_come, odd)
            self.refuses(run, Wrong, 0, run.latest, odd, odd)
            self.refuses(run, Wrong, 1, run.latest, 0, odd)
            self.refuses(run, Wrong, 1, run.latest, 2, odd)
        for worker in NO_WORKERS:
            self.refuses(run, NoWorker, worker, run.shown, worker)
            self.refuses(run, NoWorker, worker, run.can_come, worker)
            self.refuses(run, NoWorker, worker, run.latest, worker, 99)
        self.assertEqual([run.latest(1, 0), run.latest(1, 1), run.latest(0, 1), run.latest(1, 2)], [4, 1, 2, None])
        self.assertEqual([run.can_come(0), run.can_come(1)], [[0, 1], [1]])

    def test_what_is_returned_is_new(self):
        run = run_with(EXAMPLE_NET, DEEDS)
        before = all_of(run)
        for call in (run.deeds, lambda: run.shown(1), lambda: run.can_come(0)):
            call().append(("fall", 0))
            call().clear()
            self.assertEqual(all_of(run), before)
        given = list(DEEDS)
        other = run_with(EXAMPLE_NET, given)
        given.clear()
        self.assertEqual(other.deeds(), DEEDS)

    def test_what_is_passed_in_is_as_before(self):
        deeds = list(DEEDS) + [("step", 0, ())]
        kept = list(deeds)
        for _ in range(2):
            self.assertEqual(first_fault(EXAMPLE_NET, deeds), 4)
            with self.assertRaises(NoMoment):
                run_with(EXAMPLE_NET, deeds)
            self.assertEqual(len(vectors_along(EXAMPLE_NET, deeds[:4])), 5)
            self.assertEqual(deeds, kept)

    def test_copies_go_their_own_way(self):
        run = run_with(EXAMPLE_NET, DEEDS)
        other = run.copied()
        self.assertIsInstance(other, Run)
        self.assertEqual(all_of(other), all_of(run))
        other.fall(0)
        self.assertEqual([run.now(), other.now()], [4, 5])
        run.undo()
        run.undo()
        self.assertEqual([run.now(), other.now(), run.at(), other.at()], [2, 5, (1, 1), (0, 0)])
        again = other.copied()
        other.undo()
        self.assertEqual([again.now(), other.now()], [5, 4])

    def test_equal(self):
        run = run_with(EXAMPLE_NET, DEEDS)
        other = run.copied()
        self.assertIs(run == other, True)
        self.assertIs(run != other, False)
        self.assertIs(run == run, True)
        other.undo()
        self.assertIs(run == other, False)
        self.assertIs(run != other, True)
        other.fall(1)
        self.assertIs(run == other, True)
        self.assertIs(Run(EXAMPLE_NET) == Run(LATCH_NET), False)
        self.assertIs(Run(EXAMPLE_NET) == Run((EXAMPLE_NET[0], (0,))), False)
        self.assertIs(Run(EXAMPLE_NET) == Run(EXAMPLE_NET), True)
        # The same showings by other deeds do not make equal runs.
        self.assertIs(run_with(SELF_NET, [("step", 0, (0,))] * 2) ==
                      run_with(SELF_NET, [("step", 0, (0,)), ("step", 0, (1,))]), False)
        for odd in odd_values() + [EXAMPLE_NET, DEEDS, (EXAMPLE_NET, DEEDS)]:
            self.assertIs(run == odd, False)
            self.assertIs(odd == run, False)

    def test_functions(self):
        self.assertEqual(run_with(EXAMPLE_NET, DEEDS).deeds(), DEEDS)
        self.assertEqual(run_with(EXAMPLE_NET, []), Run(EXAMPLE_NET))
        self.assertIsNone(first_fault(EXAMPLE_NET, DEEDS))
        self.assertIsNone(first_fault(EXAMPLE_NET, []))
        self.assertEqual(vectors_along(EXAMPLE_NET, DEEDS), [(0, 0), (0, 1), (1, 1), (0, 1), (0, 0)])
        self.assertEqual(vectors_along(EXAMPLE_NET, []), [(0, 0)])
        for index, deed, error, value in ((0, ("step", 0, (1,)), NotShown, 1), (1, ("step", 1, (0,)), NoMoment, 0),
                                          (2, ("step", 0, (2,)), NotShown, 2), (3, ("step", 0, ()), NoMoment, 0)):
            bad = DEEDS[:index] + [deed] + DEEDS[index + 1:]
            self.assertEqual(first_fault(EXAMPLE_NET, bad), index)
            with self.assertRaises(error) as caught:
                run_with(EXAMPLE_NET, bad)
            self.assertEqual(list(vars(caught.exception).values()), [value])

    def random_run(self, rng, net, many):
        """Return the deeds of a run, and the plain run of them."""
        run, plain = Run(net), PlainRun(net)
        for _ in range(many):
            worker = rng.randrange(len(net[0]))
            code = net[0][worker][2][plain.state(worker)]
            if worker not in net[1] and rng.random() < 0.2:
                deed = ("fall", worker)
            else:
                moments = []
                while code[0] == "get":
                    moment, letter = rng.choice(plain.shown(code[1]))
                    moments.append(moment)
                    code = code[2][letter]
                deed = ("step", worker, tuple(moments))
            self.assertEqual(run.do(deed), plain.fault(deed))
            plain.do(deed)
        return run, plain

    def test_against_a_plain_run(self):
        rng = random.Random(40)
        for net in random_nets(40, steady=True, depth=3):
            run, plain = self.random_run(rng, net, 25)
            workers = range(len(net[0]))
            self.assertEqual(run.deeds(), plain.deeds)
            self.assertEqual(run.at(), tuple(plain.state(worker) for worker in workers))
            self.assertEqual(run.lots(), plain.lots())
            for worker in workers:
                code = net[0][worker][2][plain.state(worker)]
                self.assertEqual(run.shown(worker), plain.shown(worker))
                self.assertEqual(run.can_come(worker), results_of(code, plain.lots()))
                for state in range(len(net[0][worker][1])):
                    answers = [row for row, come in steps_of(code, plain.lots()) if come == state]
                    if not answers:
                        self.refuses(run, NoState, state, run.go_to, worker, state)
                        continue
                    moments = []
                    part = code
                    for letter in answers[0]:
                        moments.append(max(at for at, one in plain.shown(part[1]) if one == letter))
                        part = part[2][letter]
                    self.assertEqual(run.go_to(worker, state), ("step", worker, tuple(moments)))
                    self.assertEqual(run.at()[worker], state)
                    run.undo()

    def test_one_deed_changed(self):
        rng = random.Random(41)
        seen = set()
        for net in random_nets(25, steady=True):
            run, plain = self.random_run(rng, net, 12)
            deeds = run.deeds()
            for index, deed in enumerate(deeds):
                for other in exchanged(deed, doubtful_kinds):
                    if not has_form(other):
                        continue
                    bad = deeds[:index] + [other] + deeds[index + 1:]
                    plain = PlainRun(net)
                    fault = None
                    for at, one in enumerate(bad):
                        if isinstance(plain.fault(one), tuple):
                            fault = at
                            break
                        plain.do(one)
                    self.assertEqual(first_fault(net, bad), fault)
                    seen.add(fault)
                    if fault is None:
                        self.assertEqual(run_with(net, bad).deeds(), bad)
                        self.assertEqual(vectors_along(net, bad)[-1], run_with(net, bad).at())
                    else:
                        error, value = plain.fault(bad[fault])
                        with self.assertRaises(error) as caught:
                            run_with(net, bad)
                        self.assertEqual(list(vars(caught.exception).values()), [value])
                        self.assertIsInstance(caught.exception, OldError)
        self.assertTrue(None in seen and len(seen) > 5)

    def test_some_hundred_deeds(self):
        rng = random.Random(42)
        for net in random_nets(4, steady=True) + [THREE_NET]:
            run, plain = self.random_run(rng, net, 450)
            vectors = vectors_along(net, run.deeds())
            self.assertEqual(len(vectors), 451)
            self.assertEqual(vectors[-1], run.at())
            self.assertEqual(run.copied(), run)
            self.assertEqual([run.undo() for _ in range(450)], plain.deeds[::-1])
            self.assertEqual(run, Run(net))
            self.assertEqual(all_of(run), all_of(Run(net)))


if __name__ == "__main__":
    unittest.main()
