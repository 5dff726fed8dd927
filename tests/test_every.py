"""Tests of the runs of nets without steady workers [8], [41]."""

import random
import unittest

from oldletters import every
from oldletters.errors import NoWay
from oldletters.runs import first_fault, vectors_along
from tests.samples import (
    LATCH_NET, all_vectors, check_new, check_steady_first, odd_values, plain_moments, plain_table, random_nets,
    small_nets)

NETS = random_nets(60) + small_nets(60) + random_nets(30, most_workers=5, most_states=5, most_letters=4, depth=3)
# To come from one state to the next one takes a letter that another worker shows late; a fall is the only way back.
CHAIN = (2, (0, 0, 0, 0, 1), tuple(("get", 1, (("go", at), ("go", min(at + 1, 4)))) for at in range(5)))
FORK = (2, (0, 0, 0, 0, 1), (
    ("get", 0, (("get", 1, (("go", 1), ("go", 2))), ("get", 1, (("go", 3), ("go", 4))))),
    ("go", 1), ("go", 2), ("go", 3), ("go", 4)))
TURN_BACK = (2, (0, 1, 0), (("get", 0, (("go", 1), ("go", 2))), ("go", 2), ("go", 2)))
NAMED = [((CHAIN, TURN_BACK), ()), ((CHAIN, FORK, TURN_BACK), ()), ((FORK, TURN_BACK, CHAIN, CHAIN, FORK), ())]


def counts(net):
    """Return the number of states in the table for each worker."""
    return [len(entry) for entry in plain_table(net)]


def vectors_in(net):
    """Return all vectors of the table."""
    table = plain_table(net)
    return [vector for vector in all_vectors(net) if all(state in entry for state, entry in zip(vector, table))]


class Every(unittest.TestCase):
    def check_run(self, net, deeds, most):
        """Check that the deeds are a run, and not too many, and return its vectors."""
        self.assertIsInstance(deeds, list)
        self.assertIsNone(first_fault(net, deeds))
        self.assertLessEqual(len(deeds), most)
        return vectors_along(net, deeds)

    def test_run_for_all(self):
        for net in NETS + NAMED:
            vectors = self.check_run(net, every.run_for_all(net), sum(n * (n - 1) for n in counts(net)))
            for worker, entry in enumerate(plain_table(net)):
                self.assertEqual(sorted({vector[worker] for vector in vectors}), list(entry))

    def test_only_states_0(self):
        still = (((1, (0, 0), (("go", 0), ("go", 1))), (2, (1,), (("go", 0),))), ())
        self.assertEqual(every.run_for_all(still), [])
        self.assertEqual(every.run_through(still, [(0, 0), (0, 0)]), ([], [0, 0]))
        self.assertEqual(every.run_to(still, (0, 0)), [])

    def check_through(self, net, vectors):
        """Check a run through vectors of the table."""
        given = list(vectors)
        result = every.run_through(net, given)
        self.assertEqual(given, vectors)
        self.assertIsInstance(result, tuple)
        deeds, moments = result
        self.assertIsInstance(moments, list)
        most = sum(n * (n - 1) for n in counts(net)) + len(vectors) * sum(counts(net))
        along = self.check_run(net, deeds, most)
        self.assertEqual(moments, sorted(moments))
        self.assertEqual([along[moment] for moment in moments], vectors)

    def test_run_through(self):
        rng = random.Random(41)
        for net in NETS + NAMED:
            vectors = vectors_in(net)
            self.check_through(net, [])
            self.check_through(net, [vectors[-1]])
            self.check_through(net, [vectors[0], vectors[0]])
            self.check_through(net, [vectors[-1], vectors[-1], vectors[0], vectors[-1]])
            self.check_through(net, [rng.choice(vectors) for _ in range(6)])
            self.check_through(net, rng.sample(vectors, min(len(vectors), 12)))

    def test_run_to(self):
        rng = random.Random(42)
        for net in NETS + NAMED:
            vectors = vectors_in(net)
            for vector in [vectors[0], vectors[-1]] + rng.sample(vectors, min(len(vectors), 8)):
                deeds = every.run_to(net, vector)
                self.assertEqual(self.check_run(net, deeds, sum(n * n for n in counts(net)))[-1], vector)

    def test_all_vectors_of_small_nets(self):
        for net in small_nets(30):
            can = {vector for vector, _ in plain_moments(net)}
            self.assertEqual(sorted(can), vectors_in(net))
            for vector in all_vectors(net):
                if vector in can:
                    self.assertEqual(vectors_along(net, every.run_to(net, vector))[-1], vector)
                else:
                    self.refuses(NoWay, vector, every.run_to, net, vector)

    def refuses(self, error, value, call, *things):
        with self.assertRaises(error) as caught:
            call(*things)
        self.assertEqual(list(vars(caught.exception).values()), [value])

    def test_no_way(self):
        net = ((CHAIN, TURN_BACK, (1, (0, 0), (("go", 0), ("go", 1)))), ())
        for bad in ((0, 0, 1), (4, 2, 1)):
            self.refuses(NoWay, bad, every.run_to, net, bad)
            self.refuses(NoWay, bad, every.run_through, net, [bad])
            self.refuses(NoWay, bad, every.run_through, net, [(4, 2, 0), bad, (0, 1, 1)])
            self.refuses(NoWay, bad, every.run_through, net, [bad, (1, 1, 1), (4, 2, 0)])

    def test_steady_ahead_of_anything_else(self):
        check_steady_first(self, [every.run_for_all])
        for odd in odd_values():
            check_steady_first(self, [lambda net: every.run_through(net, odd), lambda net: every.run_to(net, odd)])
        check_steady_first(self, [lambda net: every.run_to(net, (0, 2, 9)),
                                  lambda net: every.run_through(net, [(9, 9, 9)])])

    def test_what_is_returned_is_new(self):
        check_new(self, lambda: every.run_for_all(LATCH_NET))
        check_new(self, lambda: every.run_through(LATCH_NET, [(1, 0), (0, 1)]))
        check_new(self, lambda: every.run_through(LATCH_NET, []))
        check_new(self, lambda: every.run_to(LATCH_NET, (1, 0)))


if __name__ == "__main__":
    unittest.main()
