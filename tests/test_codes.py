"""Tests of the codes [22]."""

import copy
import itertools
import random
import unittest

from oldletters import codes
from oldletters.errors import NoPlace
from tests.samples import all_paths, odd_values, plain_results, random_code, random_lots

EXAMPLE = ("get", 1, (("go", 0), ("get", 1, (("go", 2), ("go", 1)))))
GO = ("go", 3)


def samples():
    """Return tuples (code, letters of each worker, states)."""
    rng = random.Random(22)
    found = [(EXAMPLE, (1, 2), 3), (GO, (1,), 4)]
    for _ in range(60):
        many = tuple(rng.randint(1, 4) for _ in range(rng.randint(1, 5)))
        states = rng.randint(1, 5)
        found.append((random_code(rng, many, states, 3), many, states))
    return found


class Codes(unittest.TestCase):
    def test_example(self):
        self.assertEqual(codes.results_of(EXAMPLE, ((0,), (0, 1))), [0, 1, 2])
        self.assertEqual(codes.steps_of(EXAMPLE, ((0,), (0, 1))), [((0,), 0), ((1, 0), 2), ((1, 1), 1)])
        self.assertEqual([codes.plain_state(EXAMPLE, (0, 0)), codes.plain_state(EXAMPLE, (0, 1))], [0, 1])

    def test_go_alone(self):
        self.assertEqual(codes.results_of(GO, ((0,),)), [3])
        self.assertEqual(codes.steps_of(GO, ((0,),)), [((), 3)])
        self.assertEqual(codes.plain_state(GO, (0,)), 3)
        self.assertEqual([codes.depth_of(GO), codes.gets_in(GO)], [0, 0])
        self.assertEqual([codes.asked_by(GO), codes.told_by(GO), codes.places_of(GO)], [[], [3], [()]])

    def test_two_gets_with_different_answers(self):
        twice = ("get", 0, (("get", 0, (("go", 0), ("go", 1))), ("get", 0, (("go", 2), ("go", 0)))))
        self.assertEqual(codes.steps_of(twice, ((0, 1),)), [((0, 0), 0), ((0, 1), 1), ((1, 0), 2), ((1, 1), 0)])
        self.assertEqual(codes.results_of(twice, ((0, 1),)), [0, 1, 2])
        self.assertEqual(codes.results_of(twice, ((1,),)), [0])
        self.assertEqual([codes.plain_state(twice, (0,)), codes.plain_state(twice, (1,))], [0, 0])

    def test_steps_and_results(self):
        rng = random.Random(1)
        for code, many, _ in samples():
            for _ in range(6):
                lots = random_lots(rng, many)
                steps = sorted((tuple(letter for _, letter in pairs), state) for pairs, state in all_paths(code)
                               if all(letter in lots[asked] for asked, letter in pairs))
                self.assertEqual(codes.steps_of(code, lots), steps)
                self.assertEqual(codes.results_of(code, lots), sorted(plain_results(code, lots)))

    def test_plain_state(self):
        for code, many, _ in samples():
            for letters in itertools.islice(itertools.product(*[range(one) for one in many]), 60):
                lots = tuple((letter,) for letter in letters)
                self.assertEqual([codes.plain_state(code, letters)], codes.results_of(code, lots))

    def test_depth_gets_asked_told_places(self):
        code = ("get", 2, (("go", 4), ("get", 0, (("get", 2, (("go", 1), ("go", 4))),)), ))
        self.assertEqual([codes.depth_of(code), codes.gets_in(code)], [3, 3])
        self.assertEqual([codes.asked_by(code), codes.told_by(code)], [[0, 2], [1, 4]])
        self.assertEqual(codes.places_of(code), [(), (0,), (1,), (1, 0), (1, 0, 0), (1, 0, 1)])

    def test_measures_of_samples(self):
        for code, _, _ in samples():
            paths = all_paths(code)
            self.assertEqual(codes.depth_of(code), max(len(pairs) for pairs, _ in paths))
            self.assertEqual(codes.told_by(code), sorted({state for _, state in paths}))
            self.assertEqual(codes.asked_by(code), sorted({asked for pairs, _ in paths for asked, _ in pairs}))
            prefixes = {tuple(letter for _, letter in pairs[:size])
                        for pairs, _ in paths for size in range(len(pairs) + 1)}
            self.assertEqual(codes.places_of(code), sorted(prefixes))
            self.assertEqual(codes.gets_in(code), len(prefixes) - len(paths))

    def test_equal_codes_below_count_each(self):
        same = ("get", 0, (("go", 0), ("go", 0)))
        code = ("get", 0, (same, same))
        self.assertEqual(codes.gets_in(code), 3)
        self.assertEqual(len(codes.places_of(code)), 7)

    def test_code_under(self):
        code = ("get", 2, (("go", 4), ("get", 0, (("go", 1), ("go", 4)))))
        self.assertEqual(codes.code_under(code, ()), code)
        self.assertEqual(codes.code_under(code, (0,)), ("go", 4))
        self.assertEqual(codes.code_under(code, (1,)), code[2][1])
        self.assertEqual(codes.code_under(code, (1, 0)), ("go", 1))

    def test_no_place(self):
        code = ("get", 2, (("go", 4), ("get", 0, (("go", 1), ("go", 4)))))
        odd = [thing for thing in odd_values() if thing != ()]
        odd += [[], [1], (2,), (-1,), (True,), (1, True), (1, False), (0, 0), (1, 2), (1, 0, 0), ("0",), (None,),
                (1, (0,)), ((1,),), "", ("1",), (10 ** 39,)]
        for place in odd:
            with self.assertRaises(NoPlace) as caught:
                codes.code_under(code, place)
            self.assertIs(caught.exception.place, place)
            with self.assertRaises(NoPlace) as caught:
                codes.with_code(code, place, ("go", 0))
            self.assertIs(caught.exception.place, place)
        for place in ((0,), [], None):
            with self.assertRaises(NoPlace) as caught:
                codes.code_under(GO, place)
            self.assertIs(caught.exception.place, place)

    def test_with_code_and_back(self):
        other = ("get", 0, (("go", 0),))
        for code, _, _ in samples():
            self.assertEqual(codes.with_code(code, (), other), other)
            for place in codes.places_of(code):
                there = codes.code_under(code, place)
                changed = codes.with_code(code, place, other)
                self.assertEqual(codes.code_under(changed, place), other)
                self.assertEqual(codes.with_code(changed, place, there), code)
                apart = [one for one in codes.places_of(code)
                         if one[:len(place)] != place and place[:len(one)] != one]
                for one in apart:
                    self.assertEqual(codes.code_under(changed, one), codes.code_under(code, one))

    def test_renumbered_and_with_states(self):
        code = ("get", 1, (("go", 0), ("get", 0, (("go", 2), ("go", 1)))))
        self.assertEqual(codes.renumbered(code, (10 ** 39, 0)),
                         ("get", 0, (("go", 0), ("get", 10 ** 39, (("go", 2), ("go", 1))))))
        self.assertEqual(codes.renumbered(code, (4, 4)),
                         ("get", 4, (("go", 0), ("get", 4, (("go", 2), ("go", 1))))))
        self.assertEqual(codes.with_states(code, (7, 10 ** 39, 7)),
                         ("get", 1, (("go", 7), ("get", 0, (("go", 7), ("go", 10 ** 39))))))
        self.assertEqual(codes.with_states(code, (0, 0, 0)),
                         ("get", 1, (("go", 0), ("get", 0, (("go", 0), ("go", 0))))))
        self.assertEqual(codes.renumbered(GO, (1,)), GO)
        self.assertEqual(codes.with_states(GO, (0, 0, 0, 8)), ("go", 8))

    def test_renumbered_samples(self):
        for code, many, states in samples():
            table = tuple(reversed(range(len(many))))
            self.assertEqual(codes.renumbered(codes.renumbered(code, table), table), code)
            self.assertEqual(codes.asked_by(codes.renumbered(code, table)),
                             sorted(table[asked] for asked in codes.asked_by(code)))
            turned = tuple(reversed(range(states)))
            self.assertEqual(codes.with_states(codes.with_states(code, turned), turned), code)
            self.assertEqual([(pairs, turned[state]) for pairs, state in all_paths(code)],
                             all_paths(codes.with_states(code, turned)))

    def test_nothing_passed_in_changes_and_answers_are_new(self):
        code = copy.deepcopy(EXAMPLE)
        lots = ((0,), (0, 1))
        for call in (lambda: codes.results_of(code, lots), lambda: codes.steps_of(code, lots),
                     lambda: codes.asked_by(code), lambda: codes.told_by(code), lambda: codes.places_of(code)):
            first = call()
            kept = list(first)
            first.append("more")
            first.pop(0)
            self.assertEqual(call(), kept)
        self.assertEqual([code, lots], [EXAMPLE, ((0,), (0, 1))])


if __name__ == "__main__":
    unittest.main()
