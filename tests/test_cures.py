"""Tests of sharing in a net [70]."""

import itertools
import random
import unittest

from oldletters import cures
from oldletters.claims import surely_holds
from oldletters.ends import is_end
from oldletters.errors import IsSteady, NoPlace, TooMany
from oldletters.forms import is_net
from oldletters.sharing import repeats_of, shared_code
from tests.samples import (
    LATCH_NET, check_new, check_steady_first, every_tuple, plain_ends, plain_holds, plain_moments, random_claim,
    random_code, random_entry)

TALK = (2, (0, 1), (("go", 1), ("go", 0)))
# From 0 by 0 and then 1 to 1, which it never leaves; by one answer for both it stays.
TWICE = ("get", 1, (("get", 1, (("go", 0), ("go", 1))), ("get", 1, (("go", 0), ("go", 0)))))
TORN_NET = (((1, (0, 0), (TWICE, ("go", 1))), TALK), ())
STAYS_AT_0 = ("not", ("again", 0, (1,)))


def repeating_nets(many, most):
    """Return so many small nets with one to most repeats."""
    rng = random.Random(many)
    nets = []
    while len(nets) < many:
        letters = [2] * rng.randint(1, 2)
        workers = []
        for mine in letters:
            states = rng.randint(1, 3)
            codes = tuple(random_code(rng, letters, states, 2) for _ in range(states))
            workers.append((mine, tuple(rng.randrange(mine) for _ in range(states)), codes))
        net = (tuple(workers), ())
        if 0 < len(cures.net_repeats(net)) <= most and len(plain_moments(net)) > 3:
            nets.append(net)
    return nets


def plain_shared(net, sharing):
    """Return the net in which the codes are shared one by one."""
    workers = []
    for worker, (letters, shown, codes) in enumerate(net[0]):
        workers.append((letters, shown, tuple(
            shared_code(code, tuple(sorted(place for one, at, place in sharing if (one, at) == (worker, state))))
            for state, code in enumerate(codes))))
    return (tuple(workers), net[1])


def all_sharings(net):
    repeats = cures.net_repeats(net)
    return [tuple(repeats[at] for at in some) for some in every_tuple(len(repeats))]


class Cures(unittest.TestCase):
    def test_by_hand(self):
        self.assertEqual(cures.net_repeats(TORN_NET), [(0, 0, (0,)), (0, 0, (1,))])
        self.assertEqual(cures.shared_net(TORN_NET, ()), TORN_NET)
        half = ("get", 1, (("go", 0), ("get", 1, (("go", 0), ("go", 0)))))
        self.assertEqual(cures.shared_net(TORN_NET, ((0, 0, (0,)),))[0][0][2], (half, ("go", 1)))
        both = ("get", 1, (("go", 0), ("go", 0)))
        self.assertEqual(cures.shared_net(TORN_NET, ((0, 0, (0,)), (0, 0, (1,)))), (
            ((1, (0, 0), (both, ("go", 1))), TALK), ()))
        self.assertEqual(cures.least_cures(TORN_NET, STAYS_AT_0), [((0, 0, (0,)),)])
        [(sharing, box)] = cures.greatest_failing(TORN_NET, STAYS_AT_0)
        self.assertEqual((sharing, box), (((0, 0, (1,)),), ((1,), (0, 1))))

    def test_surely_holding_and_never_holding_claims(self):
        sure, never = ("again", 1, (0, 1)), ("not", ("again", 1, (0, 1)))
        self.assertEqual(cures.least_cures(TORN_NET, sure), [()])
        self.assertEqual(cures.greatest_failing(TORN_NET, sure), [])
        self.assertEqual(cures.least_cures(TORN_NET, never), [])
        [(sharing, box)] = cures.greatest_failing(TORN_NET, never)
        self.assertEqual(sharing, ((0, 0, (0,)), (0, 0, (1,))))
        self.assertIs(is_end(cures.shared_net(TORN_NET, sharing), box, "lossy"), True)
        self.assertEqual(cures.net_repeats(LATCH_NET), [])
        self.assertEqual(cures.least_cures(LATCH_NET, ("again", 0, (1,))), [()])
        self.assertEqual(cures.least_cures(LATCH_NET, ("again", 0, (0,))), [])
        self.assertEqual(cures.greatest_failing(LATCH_NET, ("again", 0, (0,))), [((), ((1,), (0,)))])

    def test_no_place(self):
        for wrong in ((0, 0, ()), (0, 0, (0, 0)), (0, 0, (2,)), (0, 1, ()), (0, 1, (0,)), (1, 0, (0,)), (2, 0, (0,)),
                      (0, 2, (0,)), (-1, 0, (0,)), (0, -2, (0,)), (0, 0, (-1,)), (10 ** 39, 0, (0,))):
            for sharing in (((wrong),), tuple(sorted([wrong, (0, 0, (0,))])), tuple(sorted([wrong, (9, 0, ())]))):
                sharing = sharing if isinstance(sharing[0], tuple) else (sharing,)
                first = [one for one in sharing if one not in ((0, 0, (0,)), (0, 0, (1,)))][0]
                with self.assertRaises(NoPlace) as caught:
                    cures.shared_net(TORN_NET, sharing)
                self.assertEqual(caught.exception.place, first)

    def test_shared_nets_of_drawn_nets(self):
        fewer = 0
        for net in repeating_nets(40, 4):
            self.assertEqual(cures.net_repeats(net), sorted(
                (worker, state, place) for worker, (_, _, codes) in enumerate(net[0])
                for state, code in enumerate(codes) for place in repeats_of(code)))
            ends = {}
            for sharing in all_sharings(net):
                shared = cures.shared_net(net, sharing)
                self.assertTrue(is_net(shared))
                self.assertEqual(shared, plain_shared(net, sharing))
                ends[sharing] = set(plain_ends(shared, "lossy"))
                for less in ends:
                    if set(less) <= set(sharing):
                        self.assertLessEqual(ends[sharing], ends[less])
            fewer += ends[()] != ends[sharing]
        self.assertGreater(fewer, 3)

    def test_cures_against_all_sharings(self):
        rng = random.Random(70)
        seen = {"sure": 0, "never": 0, "cured": 0}
        for net in repeating_nets(60, 4):
            ends = {sharing: plain_ends(plain_shared(net, sharing), "lossy") for sharing in all_sharings(net)}
            for _ in range(8):
                claim = random_claim(rng, net, rng.randint(1, 4))
                holds = {sharing: all(plain_holds(claim, box) for box in ends[sharing]) for sharing in ends}
                cured = [one for one in ends if holds[one] and not any(
                    holds[less] and set(less) < set(one) for less in ends)]
                failing = [one for one in ends if not holds[one] and all(
                    holds[more] for more in ends if set(one) < set(more))]
                self.assertEqual(cures.least_cures(net, claim), sorted(cured))
                found = cures.greatest_failing(net, claim)
                self.assertEqual([sharing for sharing, _ in found], sorted(failing))
                self.assertEqual(found, sorted(found))
                for sharing, box in found:
                    self.assertIn(box, ends[sharing])
                    self.assertFalse(plain_holds(claim, box))
                seen["sure" if cured == [()] else "cured" if cured else "never"] += 1
        self.assertGreater(min(seen.values()), 10, seen)

    def test_several_least_cures(self):
        # Either worker can be kept from its last state; the claim wants one of them to be.
        other = ("get", 1, (("get", 1, (("go", 0), ("go", 1))), ("go", 0)))
        net = (((1, (0, 0), (other, ("go", 1))), TALK, (1, (0, 0), (other, ("go", 1)))), ())
        claim = ("not", ("and", ("again", 0, (1,)), ("again", 2, (1,))))
        self.assertEqual(cures.net_repeats(net), [(0, 0, (0,)), (2, 0, (0,))])
        self.assertEqual(cures.least_cures(net, claim), [((0, 0, (0,)),), ((2, 0, (0,)),)])
        self.assertEqual(cures.greatest_failing(net, claim), [((), ((1,), (0, 1), (1,)))])
        claim = ("not", ("or", ("again", 0, (1,)), ("again", 2, (1,))))
        self.assertEqual(cures.least_cures(net, claim), [((0, 0, (0,)), (2, 0, (0,)))])
        self.assertEqual([sharing for sharing, _ in cures.greatest_failing(net, claim)], [
            ((0, 0, (0,)),), ((2, 0, (0,)),)])

    def test_six_repeats_and_more(self):
        code = TWICE
        six = (((1, (0,) * 3, (code, code, code)), TALK), ())
        seven = (((1, (0,) * 3, (code, code, code)), (2, (0, 1), (("get", 0, (("get", 0, (("go", 1),)),)), ("go", 0)))),
                 ())
        self.assertEqual((len(cures.net_repeats(six)), len(cures.net_repeats(seven))), (6, 7))
        self.assertEqual(cures.least_cures(six, ("again", 1, (0,))), [()])
        self.assertEqual(cures.least_cures(six, ("again", 0, (2,))), [])
        self.assertEqual([len(sharing) for sharing, _ in cures.greatest_failing(six, ("again", 0, (2,)))], [6])
        for call in (cures.least_cures, cures.greatest_failing):
            with self.assertRaises(TooMany) as caught:
                call(seven, ("again", 1, (0,)))
            self.assertEqual(caught.exception.most, 6)
            with self.assertRaises(IsSteady) as caught_steady:
                call((seven[0], (1,)), ("again", 1, (0,)))
            self.assertEqual(caught_steady.exception.worker, 1)
        self.assertEqual(len(cures.net_repeats(cures.shared_net(seven, tuple(cures.net_repeats(seven))))), 0)

    def test_steady_comes_first(self):
        check_steady_first(self, (
            cures.net_repeats, lambda net: cures.shared_net(net, ((0, 0, (7,)),)),
            lambda net: cures.least_cures(net, ("again", 0, (0,))),
            lambda net: cures.greatest_failing(net, ("again", 0, (0,)))))

    def test_larger_nets(self):
        rng = random.Random(71)
        for _ in range(12):
            letters = [rng.randint(1, 4) for _ in range(5)]
            net = (tuple((mine, tuple(rng.randrange(mine) for _ in range(5)),
                          tuple(random_code(rng, letters, 5, 1) for _ in range(5))) for mine in letters[:4])
                   + ((letters[4], (0,), (("get", 0, (("get", 0, (("go", 0),) * letters[0]),) * letters[0]),)),), ())
            repeats = cures.net_repeats(net)
            claim = ("or", ("again", 0, random_entry(rng, 5)), ("not", ("again", 1, random_entry(rng, 5))))
            cured = cures.least_cures(net, claim)
            self.assertIs(cured == [()], surely_holds(net, claim, "lossy"))
            self.assertEqual(len(repeats), letters[0])
            for sharing, box in itertools.islice(cures.greatest_failing(net, claim), 2):
                self.assertIs(is_end(cures.shared_net(net, sharing), box, "lossy"), True)

    def test_what_is_returned_is_new(self):
        check_new(self, lambda: cures.net_repeats(TORN_NET))
        check_new(self, lambda: cures.shared_net(TORN_NET, ((0, 0, (0,)),)))
        check_new(self, lambda: cures.least_cures(TORN_NET, STAYS_AT_0))
        check_new(self, lambda: cures.greatest_failing(TORN_NET, STAYS_AT_0))


if __name__ == "__main__":
    unittest.main()
