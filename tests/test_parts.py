"""Tests of parts and their surroundings [60]."""

import random
import unittest

from oldletters.errors import IsAsked, IsSteady, Unlike
from oldletters.forms import is_net, is_part
from oldletters.nets import reordered
from oldletters.parts import cut_part, joined_net
from tests.part_samples import COPIER, random_around, random_parts
from tests.samples import every_tuple, random_nets

STAY = ("go", 0)


def asking_others(code, other):
    """Return the code that asks other(w) in the place of w."""
    if code[0] == "go":
        return code
    return ("get", other(code[1]), tuple(asking_others(part, other) for part in code[2]))


def asked_in(worker):
    """Return the set of the workers that a worker asks."""
    found = set()
    waiting = list(worker[2])
    while waiting:
        code = waiting.pop()
        if code[0] == "get":
            found.add(code[1])
            waiting += code[2]
    return found


def with_others(worker, other):
    return (worker[0], worker[1], tuple(asking_others(code, other) for code in worker[2]))


class Parts(unittest.TestCase):
    def test_joined_net_by_hand(self):
        # Own worker 1 is shown; the further worker asks it, itself, and the foreign one.
        hidden = (1, (0,), (("get", 2, (STAY, STAY)),))
        shown = (2, (0, 1), (("get", 0, (STAY, ("go", 1), STAY)), ("get", 1, (STAY,))))
        part = ((3,), (hidden, shown), (1,))
        foreign = (3, (2,), (("get", 1, (STAY, STAY)),))
        further = (2, (0,), (("get", 2, (("get", 1, (STAY, STAY)), ("get", 0, (STAY, STAY, STAY)))),))
        self.assertEqual(joined_net(part, ((foreign, further), (1,))), (
            (foreign,
             (2, (0,), (("get", 3, (("get", 1, (STAY, STAY)), ("get", 0, (STAY, STAY, STAY)))),)),
             (1, (0,), (("get", 3, (STAY, STAY)),)),
             (2, (0, 1), (("get", 0, (STAY, ("go", 1), STAY)), ("get", 2, (STAY,))))), (1,)))

    def test_joined_net_without_foreign_workers(self):
        part = ((), ((1, (0,), (("get", 0, (STAY,)),)),), (0,))
        self.assertEqual(joined_net(part, ((), ())), (part[1], ()))
        around = (((2, (0, 1), (("get", 1, (("go", 1),)), ("get", 0, (STAY, STAY)))),), (0,))
        self.assertEqual(joined_net(part, around), (
            (around[0][0], (1, (0,), (("get", 1, (STAY,)),))), (0,)))

    def test_joined_nets_of_drawn_parts(self):
        rng = random.Random(60)
        for part in random_parts(120, letters=3):
            foreign, workers, shown = part
            for further in (0, 1, 2):
                many = len(foreign) + further
                steady = tuple(at for at in range(many) if rng.random() < 0.4)[:2]
                around = random_around(rng, part, further, steady=steady)
                net = joined_net(part, around)
                self.assertTrue(is_net(net))
                outer = tuple(with_others(worker, lambda at: at if at < many else many + shown[at - many])
                              for worker in around[0])
                inner = tuple(with_others(worker, lambda at: at if at < len(foreign) else many + at - len(foreign))
                              for worker in workers)
                self.assertEqual(net, (outer + inner, steady))

    def test_unlike(self):
        two, three = ((letters, (0,), (STAY,)) for letters in (2, 3))
        for around in (((), ()), ((three,), ()), ((three, two), (0,))):
            with self.assertRaises(Unlike):
                joined_net(COPIER, around)
        part = ((2, 3), COPIER[1], (0,))
        for around in (((two,), ()), ((two, two), ()), ((three, two), ()), ((three, three, two), ())):
            with self.assertRaises(Unlike):
                joined_net(part, around)
        self.assertEqual(len(joined_net(part, ((two, three, three), ()))[0]), 4)

    def test_cut_parts_of_drawn_nets(self):
        rng = random.Random(61)
        seen = {"cut": 0, "asked": 0, "steady": 0, "none foreign": 0, "further": 0, "nothing around": 0}
        for net in random_nets(150, most_workers=5, steady=True):
            workers, steady = net
            for some in every_tuple(len(workers))[1:]:
                shown = tuple(sorted(rng.sample(some, rng.randint(1, len(some)))))
                wrong = [at for at in some if at in steady]
                asking = [at for at in range(len(workers)) if at not in some
                          and asked_in(workers[at]) & set(some) - set(shown)]
                if wrong or asking:
                    with self.assertRaises(IsSteady if wrong else IsAsked) as caught:
                        cut_part(net, some, shown)
                    self.assertEqual(caught.exception.worker, (wrong or asking)[0])
                    seen["steady" if wrong else "asked"] += 1
                    continue
                seen["cut"] += 1
                part, around, order = cut_part(net, some, shown)
                asked = set().union(*[asked_in(workers[at]) for at in some]) - set(some)
                further = [at for at in range(len(workers)) if at not in some and at not in asked]
                self.assertEqual(order, tuple(sorted(asked)) + tuple(further) + some)
                self.assertTrue(is_part(part))
                self.assertEqual(part[0], tuple(workers[at][0] for at in sorted(asked)))
                self.assertEqual((len(part[1]), part[2]), (len(some), tuple(some.index(at) for at in shown)))
                self.assertEqual(len(around[0]), len(workers) - len(some))
                self.assertEqual(joined_net(part, around), reordered(net, order))
                seen["none foreign"] += not asked
                seen["further"] += bool(further)
                seen["nothing around"] += not around[0]
        self.assertGreater(min(seen.values()), 20, seen)

    def test_steady_comes_before_asked(self):
        look = ("get", 1, (STAY,))
        one = (1, (0,), (STAY,))
        net = (((1, (0,), (look,)), one, one, (1, (0,), (look,))), (1, 2))
        with self.assertRaises(IsSteady) as caught:
            cut_part(net, (1, 2), (2,))
        self.assertEqual(caught.exception.worker, 1)
        with self.assertRaises(IsAsked) as caught:
            cut_part((net[0], ()), (1, 2), (2,))
        self.assertEqual(caught.exception.worker, 0)
        with self.assertRaises(IsAsked) as caught:
            cut_part((net[0], ()), (0, 1), (0,))
        self.assertEqual(caught.exception.worker, 3)
        # Who is in some may ask a worker that is not shown.
        self.assertEqual(cut_part((net[0], ()), (0, 1, 3), (0,))[2], (2, 0, 1, 3))

    def test_cut_part_by_hand(self):
        # Worker 1 is the part; it asks 3, and 0 asks it.
        net = (((1, (0,), (("get", 1, (STAY, STAY)),)), (2, (0,), (("get", 3, (STAY,) * 3),)),
                (1, (0,), (("get", 0, (STAY,)),)), (3, (0,), (STAY,))), (2, 3))
        part, around, order = cut_part(net, (1,), (1,))
        self.assertEqual(part, ((3,), ((2, (0,), (("get", 0, (STAY,) * 3),)),), (0,)))
        self.assertEqual(around, (((3, (0,), (STAY,)), (1, (0,), (("get", 3, (STAY, STAY)),)),
                                   (1, (0,), (("get", 1, (STAY,)),))), (0, 2)))
        self.assertEqual(order, (3, 0, 2, 1))


if __name__ == "__main__":
    unittest.main()
