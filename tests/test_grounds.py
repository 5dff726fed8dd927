"""Tests of the grounds [30]."""

import itertools
import random
import unittest

from oldletters import grounds
from tests.samples import all_paths, every_entry, plain_results, random_code

TWO_GETS = ("get", 0, (("get", 1, (("go", 0), ("go", 1))), ("get", 1, (("go", 1), ("go", 2)))))
TORN = ("get", 0, (("get", 0, (("go", 0), ("go", 2))), ("go", 1)))


def every_lots(many, own):
    """Return all lots of many and own."""
    return [lots for lots in itertools.product(*[every_entry(letters) for letters in many])
            if own is None or own[1] in lots[own[0]]]


def plain_grounds(code, many, own):
    """Return what grounds_of returns, by trying all grounds and all lots."""
    pairs = [(worker, letter) for worker, letters in enumerate(many) for letter in range(letters)]
    grounds = [ground for size in range(len(pairs) + 1) for ground in itertools.combinations(pairs, size)]
    told = [(lots, plain_results(code, lots)) for lots in every_lots(many, own)]
    sure = {}
    for ground in grounds:
        rows = [states for lots, states in told if all(letter in lots[worker] for worker, letter in ground)]
        sure[ground] = set.intersection(*rows)
    found = {}
    for state in sorted(set.union(*[states for _, states in told])):
        found[state] = sorted(
            ground for ground in grounds if state in sure[ground] and not any(
                state in sure[tuple(pair for pair in ground if pair != out)] for out in ground))
    return found


def samples(many_codes, most_pairs):
    """Return tuples (rng, code, another code, letters of each worker, own) of a few letters in all."""
    rng = random.Random(30)
    found = []
    while len(found) < many_codes:
        many = tuple(rng.randint(1, 3) for _ in range(rng.randint(1, 4)))
        if sum(many) <= most_pairs:
            worker = rng.randrange(len(many))
            own = rng.choice([None, (worker, rng.randrange(many[worker]))])
            found.append((random_code(rng, many, 3, 2), random_code(rng, many, 3, 2), many, own))
    return found


class Grounds(unittest.TestCase):
    def test_example(self):
        self.assertEqual(grounds.grounds_of(TWO_GETS, (2, 2), None)[1], [
            ((0, 0), (0, 1)), ((0, 0), (1, 1)), ((0, 1), (1, 0)), ((1, 0), (1, 1))])

    def test_go_alone(self):
        self.assertEqual(grounds.grounds_of(("go", 2), (2, 3), None), {2: [()]})
        self.assertEqual(grounds.grounds_of(("go", 2), (2, 3), (1, 2)), {2: [()]})

    def test_own(self):
        look = ("get", 0, (("go", 0), ("go", 1)))
        self.assertEqual(grounds.grounds_of(look, (2, 2), None), {0: [((0, 0),)], 1: [((0, 1),)]})
        self.assertEqual(grounds.grounds_of(look, (2, 2), (0, 1)), {0: [((0, 0),)], 1: [()]})
        self.assertEqual(grounds.grounds_of(look, (2, 2), (1, 1)), {0: [((0, 0),)], 1: [((0, 1),)]})

    def test_worker_with_one_letter(self):
        code = ("get", 1, (("get", 0, (("go", 0), ("go", 1))),))
        self.assertEqual(grounds.grounds_of(code, (2, 1), None), {0: [((0, 0),)], 1: [((0, 1),)]})
        self.assertEqual(grounds.grounds_of(("get", 0, (("go", 3),)), (1,), (0, 0)), {3: [()]})

    def test_alike_letters_need_no_ground(self):
        code = ("get", 0, (("go", 1), ("go", 1), ("go", 0)))
        self.assertEqual(grounds.grounds_of(code, (3,), None), {0: [((0, 2),)], 1: [((0, 0),), ((0, 1),)]})
        code = ("get", 0, (("go", 1), ("get", 0, (("go", 0), ("go", 1)))))
        self.assertEqual(grounds.grounds_of(code, (2,), None)[1], [()])

    def test_against_all_lots(self):
        for code, _, many, own in samples(70, 7):
            found = grounds.grounds_of(code, many, own)
            self.assertEqual(found, plain_grounds(code, many, own), (code, many, own))
            self.assertEqual(list(found), sorted(found))

    def test_grounds_tell_the_results(self):
        for code, _, many, own in samples(40, 9):
            found = grounds.grounds_of(code, many, own)
            for lots in every_lots(many, own):
                told = {state for state, rows in found.items() if any(
                    all(letter in lots[worker] for worker, letter in ground) for ground in rows)}
                self.assertEqual(told, plain_results(code, lots))

    def test_greatest_size(self):
        code = ("get", 3, tuple(("get", asked, tuple(("go", (asked + letter) % 4) for letter in range(3)))
                                for asked in (0, 1, 2)))
        many = (3, 3, 3, 3)
        found = grounds.grounds_of(code, many, None)
        self.assertEqual(list(found), [0, 1, 2, 3])
        for state, rows in found.items():
            paths = {tuple(sorted(set(pairs))) for pairs, come in all_paths(code) if come == state}
            for path in paths:
                self.assertTrue(any(set(row) <= set(path) for row in rows))
        self.assertIn(((0, 0), (3, 0)), found[0])
        # Where no letter of 3 is sure, one of each asked worker's own is.
        self.assertIn(((0, 2), (1, 1), (2, 0)), found[2])

    def test_returned_values_are_new(self):
        first = grounds.grounds_of(TWO_GETS, (2, 2), None)
        kept = {state: list(rows) for state, rows in first.items()}
        first[1].append(())
        first[9] = []
        self.assertEqual(grounds.grounds_of(TWO_GETS, (2, 2), None), kept)


class Comparing(unittest.TestCase):
    def check_pair(self, one, other, many, own):
        lots = every_lots(many, own)
        rows = [(plain_results(one, row), plain_results(other, row)) for row in lots]
        self.assertIs(grounds.is_alike_code(one, other, many, own), all(a == b for a, b in rows))
        self.assertIs(grounds.is_narrower(one, other, many, own), all(a <= b for a, b in rows))
        self.assertIs(grounds.is_narrower(other, one, many, own), all(a >= b for a, b in rows))
        parting = grounds.parting_lots(one, other, many, own)
        if all(a == b for a, b in rows):
            self.assertIsNone(parting)
        else:
            self.assertIn(parting, lots)
            self.assertNotEqual(plain_results(one, parting), plain_results(other, parting))
            self.assertEqual(grounds.parting_lots(one, other, many, own), parting)

    def test_against_all_lots(self):
        for one, other, many, own in samples(150, 12):
            self.check_pair(one, other, many, own)
            self.check_pair(one, one, many, own)

    def test_alike_in_another_form(self):
        look = ("get", 0, (("go", 0), ("go", 1)))
        code = ("get", 1, (look, look, look))
        for own in (None, (0, 1), (1, 2)):
            self.check_pair(look, code, (2, 3), own)
            self.assertIs(grounds.is_alike_code(look, code, (2, 3), own), True)
        turned = ("get", 1, (("get", 0, (("go", 0), ("go", 1))), ("get", 0, (("go", 1), ("go", 2)))))
        self.assertIs(grounds.is_alike_code(TWO_GETS, turned, (2, 2), None), True)
        self.assertIsNone(grounds.parting_lots(TWO_GETS, turned, (2, 2), None))

    def test_own_makes_alike(self):
        one = ("get", 0, (("go", 1), ("go", 0)))
        other = ("get", 0, (("go", 1), ("get", 0, (("go", 0), ("go", 1)))))
        self.assertEqual(grounds.parting_lots(one, other, (2,), None), ((1,),))
        for own, alike in ((None, False), ((0, 1), False), ((0, 0), True)):
            self.check_pair(one, other, (2,), own)
            self.assertIs(grounds.is_alike_code(one, other, (2,), own), alike)

    def test_narrower_alone(self):
        wide = ("get", 0, (("go", 0), ("go", 1)))
        for own, narrower in ((None, False), ((0, 0), True), ((0, 1), False), ((1, 0), False)):
            self.assertIs(grounds.is_narrower(("go", 0), wide, (2, 2), own), narrower)
            self.assertIs(grounds.is_narrower(wide, ("go", 0), (2, 2), own), False)


class Torn(unittest.TestCase):
    def test_example(self):
        self.assertEqual(grounds.torn_states(TORN, ((0, 1),)), [2])

    def test_single_letters_tear_nothing(self):
        for letter in (0, 1):
            self.assertEqual(grounds.torn_states(TORN, ((letter,),)), [])

    def test_state_of_a_torn_and_another_step(self):
        code = ("get", 0, (("get", 0, (("go", 0), ("go", 1))), ("go", 1)))
        self.assertEqual(grounds.torn_states(code, ((0, 1),)), [])
        code = ("get", 0, (("get", 0, (("go", 0), ("go", 1))), ("get", 0, (("go", 1), ("go", 0)))))
        self.assertEqual(grounds.torn_states(code, ((0, 1),)), [1])

    def test_two_workers_are_not_torn(self):
        self.assertEqual(grounds.torn_states(TWO_GETS, ((0, 1), (0, 1))), [])

    def test_against_all_steps(self):
        rng = random.Random(31)
        for _ in range(150):
            many = tuple(rng.randint(1, 3) for _ in range(2))
            code = random_code(rng, many, 4, 3)
            for lots in every_lots(many, None):
                torn, whole = set(), set()
                for pairs, state in all_paths(code):
                    if all(letter in lots[asked] for asked, letter in pairs):
                        letters = {}
                        for asked, letter in pairs:
                            letters.setdefault(asked, set()).add(letter)
                        (torn if any(len(row) > 1 for row in letters.values()) else whole).add(state)
                self.assertEqual(grounds.torn_states(code, lots), sorted(torn - whole))


if __name__ == "__main__":
    unittest.main()
