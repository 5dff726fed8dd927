"""Tests of who has to take part [37]."""

import unittest

from oldletters import taking
from oldletters.errors import IsSteady, NoState, NoWorker
from tests.samples import LATCH_NET, THREE_NET, every_tuple, odd_values, plain_table, random_nets

NETS = random_nets(70) + random_nets(30, most_workers=5, most_states=5, most_letters=4)


class Taking(unittest.TestCase):
    def test_example(self):
        self.assertEqual(taking.least_movers(LATCH_NET, 0, 1), [(0, 1)])
        self.assertEqual(taking.needed_letters(LATCH_NET, 0, 1), [(0, 1), (1, 1)])

    def test_movers_table(self):
        self.assertEqual(taking.movers_table(LATCH_NET, ()), ((0,), (0,)))
        self.assertEqual(taking.movers_table(LATCH_NET, (0,)), ((0,), (0,)))
        self.assertEqual(taking.movers_table(LATCH_NET, (1,)), ((0,), (0, 1)))
        self.assertEqual(taking.movers_table(LATCH_NET, (0, 1)), ((0, 1), (0, 1)))
        for net in NETS:
            for movers in every_tuple(len(net[0])):
                self.assertEqual(taking.movers_table(net, movers),
                                 plain_table(net, lambda worker, state: worker in movers))

    def test_least_movers(self):
        seen = set()
        for net in NETS:
            boxes = {movers: plain_table(net, lambda worker, state: worker in movers)
                     for movers in every_tuple(len(net[0]))}
            for worker, (_, shown, _) in enumerate(net[0]):
                for state in range(len(shown)):
                    good = [movers for movers, box in boxes.items() if state in box[worker]]
                    least = sorted(some for some in good if not any(set(less) < set(some) for less in good))
                    self.assertEqual(taking.least_movers(net, worker, state), least)
                    seen.add(len(least))
                self.assertEqual(taking.least_movers(net, worker, 0), [()])
        self.assertTrue({0, 1, 2} <= seen, seen)

    def test_needed_letters(self):
        seen = set()
        for net in NETS:
            table = plain_table(net)
            for worker, (_, states, _) in enumerate(net[0]):
                for state in range(len(states)):
                    needed = []
                    for other, (letters, shown, _) in enumerate(net[0]):
                        for letter in range(letters):
                            if letter != shown[0] and state in table[worker]:
                                box = plain_table(net, lambda one, at: one != other or shown[at] != letter)
                                if state not in box[worker]:
                                    needed.append((other, letter))
                    self.assertEqual(taking.needed_letters(net, worker, state), needed)
                    seen.add(len(needed))
        self.assertTrue({0, 1, 2} <= seen, seen)

    def test_nothing_is_needed(self):
        self.assertEqual(taking.needed_letters(LATCH_NET, 0, 0), [])
        still = (((2, (0, 1), (("go", 0), ("go", 1))),), ())
        self.assertEqual(taking.needed_letters(still, 0, 1), [])
        self.assertEqual(taking.least_movers(still, 0, 1), [])

    def test_errors(self):
        for odd in odd_values():
            for call in (lambda: taking.movers_table((THREE_NET[0], (1, 2)), odd),
                         lambda: taking.least_movers((THREE_NET[0], (1, 2)), odd, odd),
                         lambda: taking.needed_letters((THREE_NET[0], (1, 2)), odd, odd)):
                with self.assertRaises(IsSteady) as caught:
                    call()
                self.assertEqual(caught.exception.worker, 1)
        for odd in odd_values() + [2]:
            if type(odd) is not int or odd not in (0, 1):
                for call in (taking.least_movers, taking.needed_letters):
                    with self.assertRaises(NoWorker) as caught:
                        call(LATCH_NET, odd, odd)
                    self.assertIs(caught.exception.worker, odd)
                    with self.assertRaises(NoState) as caught:
                        call(LATCH_NET, 0, odd)
                    self.assertIs(caught.exception.state, odd)

    def test_returned_lists_are_new(self):
        for call in (taking.least_movers, taking.needed_letters):
            first = call(LATCH_NET, 0, 1)
            kept = list(first)
            first.clear()
            self.assertEqual(call(LATCH_NET, 0, 1), kept)


if __name__ == "__main__":
    unittest.main()
