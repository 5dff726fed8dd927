"""Tests of the nets [35]."""

import itertools
import random
import re
import unittest

from oldletters import nets
from oldletters.errors import IsAsked, Last, NoLetter, NoState, NoWorker
from oldletters.forms import is_box, is_lots, is_net
from oldletters.texts import default_names, show_net
from tests.samples import (
    BIG_NET, LATCH_NET, SELF_NET, THREE_NET, odd_values, plain_greatest, plain_least, random_lots, random_nets)

NO_INDEX = [odd for odd in odd_values() if not (type(odd) is int and 0 <= odd < 3)] + [3, 4, "0", (0,), [0]]


def blocks(text):
    """Return the blocks of the text of a net, in an order that depends on their words alone."""
    return sorted(re.split(r"\n(?! )", text))


class Nets(unittest.TestCase):
    def raises(self, error, value, call, *things):
        with self.assertRaises(error) as caught:
            call(*things)
        if isinstance(caught.exception, Last):
            return
        field, = vars(caught.exception).values()
        self.assertIs(field, value)

    def test_readings(self):
        self.assertEqual([nets.letters_of(THREE_NET, worker) for worker in range(3)], [3, 1, 2])
        self.assertEqual([nets.states_of(THREE_NET, worker) for worker in range(3)], [2, 3, 2])
        self.assertEqual([nets.letter_at(THREE_NET, 0, 1), nets.letter_at(THREE_NET, 2, 0)], [2, 1])
        self.assertEqual(nets.code_at(THREE_NET, 1, 0), ("go", 1))
        self.assertEqual(nets.all_states(THREE_NET), ((0, 1), (0, 1, 2), (0, 1)))
        self.assertEqual(nets.all_lots(THREE_NET), ((0, 1, 2), (0,), (0, 1)))

    def test_shown_lots(self):
        self.assertEqual(nets.shown_lots(THREE_NET, ((0, 1), (0, 2), (1,))), ((0, 2), (0,), (0,)))
        self.assertEqual(nets.shown_lots(BIG_NET, ((0, 6),) * 7), ((0, 6),) * 7)
        for net in random_nets(20):
            self.assertTrue(is_box(net, nets.all_states(net)))
            self.assertTrue(is_lots(net, nets.all_lots(net)))
            self.assertTrue(is_lots(net, nets.shown_lots(net, nets.all_states(net))))

    def test_lies_in(self):
        self.assertIs(nets.lies_in(((0,), (1,)), ((0, 1), (1,))), True)
        self.assertIs(nets.lies_in(((0, 1), (1,)), ((0,), (1,))), False)
        self.assertIs(nets.lies_in(((0,), (0,)), ((0, 1), (1,))), False)
        self.assertIs(nets.lies_in(((0, 2),), ((0, 1, 2),)), True)
        self.assertIs(nets.lies_in(((0, 2),), ((0, 2),)), True)
        self.assertIs(nets.lies_in(((0, 2),), ((0, 1, 3),)), False)

    def test_least_and_greatest_of_boxes(self):
        rng = random.Random(35)
        self.assertEqual((nets.least_of([]), nets.greatest_of([])), ([], []))
        self.assertEqual(nets.size_of(((0, 2), (1,), (0, 1, 2))), 6)
        for _ in range(60):
            boxes = [random_lots(rng, (3, 2, 3)) for _ in range(rng.randint(1, 12))]
            kept = list(boxes)
            self.assertEqual(nets.least_of(boxes), sorted(set(plain_least(boxes))))
            self.assertEqual(nets.greatest_of(boxes), sorted(set(plain_greatest(boxes))))
            self.assertEqual(boxes, kept)

    def test_no_worker(self):
        for odd in NO_INDEX:
            for call, further in ((nets.letters_of, ()), (nets.states_of, ()), (nets.letter_at, (9,)),
                                  (nets.code_at, (None,)), (nets.with_code_at, (9, ("go", 0))),
                                  (nets.with_letter_at, (9, 9)), (nets.without_worker, ())):
                self.raises(NoWorker, odd, call, THREE_NET, odd, *further)
        self.raises(NoWorker, 1, nets.without_worker, SELF_NET, 1)

    def test_no_state(self):
        for odd in NO_INDEX:
            for call, further in ((nets.letter_at, ()), (nets.code_at, ()), (nets.with_code_at, (("go", 0),)),
                                  (nets.with_letter_at, (9,)), (nets.with_letter_at, (True,))):
                self.raises(NoState, odd, call, THREE_NET, 1, odd, *further)
        self.raises(NoState, 2, nets.letter_at, THREE_NET, 0, 2)
        self.assertEqual(nets.letter_at(THREE_NET, 1, 2), 0)

    def test_no_letter(self):
        for odd in NO_INDEX:
            self.raises(NoLetter, odd, nets.with_letter_at, THREE_NET, 0, 0, odd)
        self.raises(NoLetter, 2, nets.with_letter_at, THREE_NET, 2, 1, 2)
        self.raises(NoLetter, 1, nets.with_letter_at, THREE_NET, 1, 1, 1)

    def test_with_code_and_letter(self):
        code = ("get", 0, (("go", 0), ("go", 0), ("go", 1)))
        net = nets.with_code_at(THREE_NET, 2, 1, code)
        self.assertTrue(is_net(net))
        self.assertEqual(net[1], (2,))
        for worker, state in itertools.product(range(3), range(2)):
            there = code if (worker, state) == (2, 1) else nets.code_at(THREE_NET, worker, state)
            self.assertEqual(nets.code_at(net, worker, state), there)
            self.assertEqual(nets.letter_at(net, worker, state), nets.letter_at(THREE_NET, worker, state))
        self.assertEqual(nets.with_code_at(net, 2, 1, nets.code_at(THREE_NET, 2, 1)), THREE_NET)
        net = nets.with_letter_at(THREE_NET, 0, 1, 1)
        self.assertEqual(net[0][0], (3, (0, 1), THREE_NET[0][0][2]))
        self.assertEqual((net[0][1:], net[1]), (THREE_NET[0][1:], (2,)))
        self.assertEqual(nets.with_letter_at(net, 0, 1, 2), THREE_NET)

    def test_without_worker(self):
        look = ("get", 2, (("go", 0), ("get", 0, (("go", 0),))))
        alone = (1, (0,), (("get", 1, (("go", 0),)),))
        net = (((1, (0,), (look,)), alone, (2, (0,), (("get", 2, (("go", 0),) * 2),)), (1, (0,), (look,))), (0, 1, 3))
        self.assertEqual(nets.without_worker(net, 1), ((
            (1, (0,), (("get", 1, (("go", 0), ("get", 0, (("go", 0),)))),)),
            (2, (0,), (("get", 1, (("go", 0),) * 2),)),
            (1, (0,), (("get", 1, (("go", 0), ("get", 0, (("go", 0),)))),))), (0, 2)))
        self.assertEqual(nets.without_worker(net, 3), (net[0][:3], (0, 1)))
        self.raises(IsAsked, 0, nets.without_worker, net, 2)
        self.raises(IsAsked, 3, nets.without_worker, net, 0)

    def test_last_ahead_of_is_asked(self):
        with self.assertRaises(Last):
            nets.without_worker(SELF_NET, 0)
        self.raises(IsAsked, 1, nets.without_worker, LATCH_NET, 0)
        self.raises(IsAsked, 0, nets.without_worker, LATCH_NET, 1)

    def test_least_asking_worker(self):
        code = ("get", 3, (("go", 0),))
        rows = [(1, (0, 0), (("go", 0), ("go", 0))), (1, (0, 0), (("go", 0), code)), (1, (0, 0), (code, code)),
                (1, (0,), (("get", 3, (("go", 0),)),))]
        self.raises(IsAsked, 1, nets.without_worker, (tuple(rows), ()), 3)

    def test_reordered(self):
        self.assertEqual(nets.reordered(LATCH_NET, (1, 0)), ((
            (2, (0, 1), (("get", 1, (("go", 1), ("go", 0))), ("get", 1, (("go", 1), ("go", 0))))),
            (2, (0, 1), (("get", 0, (("go", 0), ("go", 1))), ("go", 1)))), ()))
        self.assertEqual(nets.reordered(THREE_NET, (2, 0, 1))[1], (0,))
        self.assertEqual(nets.reordered((THREE_NET[0], (0, 2)), (1, 2, 0))[1], (1, 2))
        self.assertEqual(nets.reordered(THREE_NET, (0, 1, 2)), THREE_NET)

    def test_reordered_and_back(self):
        rng = random.Random(35)
        for net in random_nets(40, steady=True):
            order = list(range(len(net[0])))
            rng.shuffle(order)
            moved = nets.reordered(net, tuple(order))
            self.assertTrue(is_net(moved))
            self.assertEqual(nets.reordered(moved, tuple(order.index(k) for k in range(len(order)))), net)
            # By names each worker is the same as before.
            names = default_names(net)
            turned = tuple(tuple(row[worker] for worker in order) for row in names)
            self.assertEqual(blocks(show_net(turned, moved)), blocks(show_net(names, net)))


if __name__ == "__main__":
    unittest.main()
