"""Tests of sharing [31]."""

import itertools
import random
import unittest

from oldletters import sharing
from oldletters.codes import gets_in
from oldletters.errors import NoPlace, TooMany
from tests.samples import all_paths, every_entry, plain_results, random_code

TORN = ("get", 0, (("get", 0, (("go", 0), ("go", 2))), ("go", 1)))
# Gets of 0, of 1 and of 0 again, one behind the other.
BETWEEN = ("get", 0, tuple(("get", 1, tuple(("get", 0, (("go", 4 * one + 2 * two), ("go", 4 * one + 2 * two + 1)))
                                            for two in (0, 1))) for one in (0, 1)))
# Three gets of 0, one behind the other.
THRICE = ("get", 0, tuple(("get", 0, tuple(("get", 0, (("go", 4 * one + 2 * two), ("go", 4 * one + 2 * two + 1)))
                                           for two in (0, 1))) for one in (0, 1)))


def plain_repeats(code):
    """Return the places of the gets with a get of the same worker on the way to them."""
    found = set()
    for pairs, _ in all_paths(code):
        for size, (asked, _) in enumerate(pairs):
            if asked in [worker for worker, _ in pairs[:size]]:
                found.add(tuple(letter for _, letter in pairs[:size]))
    return sorted(found)


def plain_shared(code, places):
    """Return the set of (asked pairs, state) of the steps of the code that so shares, by its ways alone."""
    found = set()
    for pairs, state in all_paths(code):
        asked, last, fits = [], {}, True
        for size, (worker, letter) in enumerate(pairs):
            if tuple(one for _, one in pairs[:size]) in places:
                fits = fits and last[worker] == letter
            else:
                asked.append((worker, letter))
            last[worker] = letter
        if fits:
            found.add((tuple(asked), state))
    return found


def samples():
    """Return codes with some repeats, six at most, and the letters of each worker."""
    rng = random.Random(31)
    found = []
    while len(found) < 60:
        many = tuple(rng.randint(1, 3) for _ in range(rng.randint(1, 2)))
        code = random_code(rng, many, 4, 3)
        if 0 < len(plain_repeats(code)) <= 6:
            found.append((code, many))
    return found


class Sharing(unittest.TestCase):
    def test_example(self):
        self.assertEqual(sharing.repeats_of(TORN), [(0,)])
        self.assertEqual(sharing.shared_code(TORN, ((0,),)), ("get", 0, (("go", 0), ("go", 1))))
        self.assertEqual(sharing.least_sharings(TORN, (2,), (2,)), [((0,),)])
        self.assertEqual(sharing.least_sharings(TORN, (2,), (1,)), [])

    def test_repeats(self):
        self.assertEqual(sharing.repeats_of(("go", 0)), [])
        self.assertEqual(sharing.repeats_of(("get", 0, (("get", 1, (("go", 0),)),))), [])
        self.assertEqual(sharing.repeats_of(BETWEEN), [(0, 0), (0, 1), (1, 0), (1, 1)])
        self.assertEqual(sharing.repeats_of(THRICE), [(0,), (0, 0), (0, 1), (1,), (1, 0), (1, 1)])
        for code, _ in samples():
            self.assertEqual(sharing.repeats_of(code), plain_repeats(code))

    def test_repeat_behind_another_worker(self):
        self.assertEqual(sharing.shared_code(BETWEEN, ((1, 0),)), ("get", 0, (
            BETWEEN[2][0], ("get", 1, (("go", 5), BETWEEN[2][1][2][1])))))

    def test_former_get_that_is_asked(self):
        # The former get of (0, 1) is the repeat at (0,), which is asked here: its answer counts, not the first one.
        self.assertEqual(sharing.shared_code(THRICE, ((0, 1), (1, 0))), ("get", 0, (
            ("get", 0, (THRICE[2][0][2][0], ("go", 3))), ("get", 0, (("go", 4), THRICE[2][1][2][1])))))

    def test_former_get_that_is_shared(self):
        self.assertEqual(sharing.shared_code(THRICE, ((0,), (0, 0), (1,), (1, 1))), ("get", 0, (("go", 0), ("go", 7))))
        self.assertEqual(sharing.shared_code(THRICE, ((0,),)), ("get", 0, (
            ("get", 0, (("go", 0), ("go", 1))), THRICE[2][1])))

    def test_place_no_longer_come_to(self):
        alone = sharing.shared_code(THRICE, ((0,),))
        self.assertEqual(sharing.shared_code(THRICE, ((0,), (0, 1))), alone)

    def test_all_sharings_of_samples(self):
        for code, _ in samples():
            for places in sharing.sharings_of(code):
                shared = sharing.shared_code(code, places)
                self.assertEqual(set(all_paths(shared)), plain_shared(code, places))
                self.assertLessEqual(gets_in(shared), gets_in(code))
            self.assertEqual(sharing.shared_code(code, ()), code)

    def test_more_places_come_to_no_further_states(self):
        for code, many in samples()[:20]:
            lots = [row for row in itertools.product(*[every_entry(letters) for letters in many])]
            for places in sharing.sharings_of(code):
                for out in places:
                    less = tuple(place for place in places if place != out)
                    for row in lots:
                        self.assertLessEqual(plain_results(sharing.shared_code(code, places), row),
                                             plain_results(sharing.shared_code(code, less), row))

    def test_no_place(self):
        for places, first in ((((),), ()), (((), (0,)), ()), (((0,), (1,)), (1,)), (((0,), (0, 0)), (0, 0)),
                              (((0,), (0, 1), (5,)), (0, 1)), (((-1,), (0,)), (-1,)), (((0,), (2,), (3,)), (2,)),
                              (((10 ** 39,),), (10 ** 39,))):
            with self.assertRaises(NoPlace) as caught:
                sharing.shared_code(TORN, places)
            self.assertEqual(caught.exception.place, first)
        # (0, 1) is a repeat of the code, though none of the code so shared.
        sharing.shared_code(THRICE, ((0,), (0, 1)))

    def test_sharings(self):
        self.assertEqual(sharing.sharings_of(("go", 1)), [()])
        self.assertEqual(sharing.sharings_of(TORN), [(), ((0,),)])
        found = sharing.sharings_of(THRICE)
        self.assertEqual(len(found), 64)
        self.assertEqual(found, sorted(found))
        self.assertEqual(len(set(found)), 64)

    def test_least_sharings(self):
        for code, many in samples():
            lots = tuple(tuple(range(letters)) for letters in many)
            for unwanted in [()] + every_entry(4):
                good = [places for places in sharing.sharings_of(code)
                        if not any(state in unwanted for _, state in plain_shared(code, places))]
                least = [places for places in good if not any(set(less) < set(places) for less in good)]
                self.assertEqual(sharing.least_sharings(code, many, unwanted), sorted(least))
                self.assertTrue(all(not set(unwanted) & plain_results(sharing.shared_code(code, places), lots)
                                    for places in least))

    def test_least_sharings_without_and_with_none(self):
        self.assertEqual(sharing.least_sharings(TORN, (2,), ()), [()])
        self.assertEqual(sharing.least_sharings(TORN, (2,), (3,)), [()])
        self.assertEqual(sharing.least_sharings(TORN, (2,), (0, 2)), [])
        self.assertEqual(sharing.least_sharings(THRICE, (2,), (2,)), [((0,),), ((0, 1),)])

    def test_six_repeats_and_seven(self):
        self.assertEqual(len(sharing.repeats_of(THRICE)), 6)
        self.assertEqual(sharing.least_sharings(THRICE, (2,), (0, 1)), [])
        seven = ("get", 0, (THRICE[2][0], THRICE[2][1], ("get", 0, (("go", 0), ("go", 0), ("go", 0)))))
        wide = ("get", 0, tuple(("get", 0, tuple(("get", 0, (("go", 0),) * 3) if two < 2 else ("go", 1)
                                                 for two in range(3))) for one in range(2)) + (
            ("get", 0, (("go", 0),) * 3),))
        self.assertEqual(len(sharing.repeats_of(wide)), 7)
        self.assertEqual(len(sharing.repeats_of(seven)), 7)
        for call in (lambda: sharing.sharings_of(wide), lambda: sharing.least_sharings(wide, (3,), ()),
                     lambda: sharing.least_sharings(wide, (), None)):
            with self.assertRaises(TooMany) as caught:
                call()
            self.assertEqual(caught.exception.most, 6)
        self.assertEqual(gets_in(sharing.shared_code(wide, ((0,),))), 6)

    def test_returned_lists_are_new(self):
        for call in (lambda: sharing.repeats_of(THRICE), lambda: sharing.sharings_of(THRICE),
                     lambda: sharing.least_sharings(THRICE, (2,), (2,))):
            first = call()
            kept = list(first)
            first.clear()
            self.assertEqual(call(), kept)


if __name__ == "__main__":
    unittest.main()
