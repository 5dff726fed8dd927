"""Tests of the tables [36]."""

import copy
import random
import unittest

from oldletters import tables
from oldletters.codes import steps_of
from oldletters.errors import IsSteady, NoState, NoWorker
from oldletters.nets import all_states, lies_in, shown_lots
from oldletters.runs import Run
from tests.samples import (
    LATCH_NET, THREE_NET, doubtful_kinds, exchanged, odd_values, plain_results, plain_table, random_lots, random_nets,
    wrong_kinds)

FREE_NET = (THREE_NET[0], ())
GROWTH = [(0, 0, None, ()), (1, 0, None, ()), (1, 1, 0, (0,)), (0, 1, 0, (1,))]


def plain_growth(net, thing):
    """Tell whether thing is a growth of the net, without a look at the program."""
    many = len(net[0])
    if type(thing) is not list or len(thing) < many:
        return False
    standing = []
    for index, row in enumerate(thing):
        if type(row) is not tuple or len(row) != 4 or type(row[3]) is not tuple:
            return False
        worker, state, before, answers = row
        if not all(type(one) is int for one in (worker, state) + answers):
            return False
        if index < many:
            if (worker, state, answers) != (index, 0, ()) or before is not None:
                return False
        else:
            if (worker, state) in standing or type(before) is not int or (worker, before) not in standing:
                return False
            lots = tuple(tuple(sorted({net[0][one][1][at] for other, at in standing if other == one}))
                         for one in range(many))
            if (answers, state) not in steps_of(net[0][worker][2][before], lots):
                return False
        standing.append((worker, state))
    table = plain_table(net)
    return sorted(standing) == [(worker, state) for worker, entry in enumerate(table) for state in entry]


class Tables(unittest.TestCase):
    def test_table(self):
        self.assertEqual(tables.table_of(LATCH_NET), ((0, 1), (0, 1)))
        self.assertEqual(tables.table_of(FREE_NET), plain_table(FREE_NET))
        still = (((2, (0, 1), (("get", 0, (("go", 0), ("go", 1))), ("go", 0))),), ())
        self.assertEqual(tables.table_of(still), ((0,),))

    def test_table_against_a_plain_closure(self):
        seen = set()
        for net in random_nets(120) + random_nets(60, most_workers=5, most_states=5, most_letters=4, depth=3):
            table = tables.table_of(net)
            self.assertEqual(table, plain_table(net))
            seen.add(table == all_states(net))
        self.assertEqual(seen, {True, False})

    def test_runs_stay_in_the_table(self):
        rng = random.Random(36)
        for net in random_nets(30):
            run = Run(net)
            table = tables.table_of(net)
            for _ in range(60):
                worker = rng.randrange(len(net[0]))
                if rng.random() < 0.2:
                    run.fall(worker)
                else:
                    run.go_to(worker, rng.choice(run.can_come(worker)))
                self.assertTrue(all(state in entry for state, entry in zip(run.at(), table)))

    def test_steady_ahead_of_anything_else(self):
        for steady, least in (((2,), 2), ((1, 2), 1), ((0, 1, 2), 0)):
            net = (THREE_NET[0], steady)
            for odd in odd_values():
                for call in (lambda: tables.table_of(net), lambda: tables.growth_of(net),
                             lambda: tables.is_growth(net, odd), lambda: tables.way_to_state(net, odd, odd)):
                    with self.assertRaises(IsSteady) as caught:
                        call()
                    self.assertEqual(caught.exception.worker, least)

    def test_table_from(self):
        rng = random.Random(37)
        for net in random_nets(60, steady=True):
            for _ in range(4):
                box = random_lots(rng, [len(worker[1]) for worker in net[0]])
                lots = random_lots(rng, [worker[0] for worker in net[0]])
                found = [set(entry) | {0} for entry in box]
                for _ in range(30):
                    sight = [{worker[1][state] for state in entry} | set(further)
                             for worker, entry, further in zip(net[0], found, lots)]
                    found = [entry.union(*[plain_results(worker[2][state], sight) for state in entry])
                             for worker, entry in zip(net[0], found)]
                self.assertEqual(tables.table_from(net, box, lots), tuple(tuple(sorted(one)) for one in found))

    def test_table_from_lots_that_are_not_shown(self):
        still = (((2, (0, 0), (("get", 0, (("go", 0), ("go", 1))), ("go", 0))),), (0,))
        self.assertEqual(tables.table_from(still, ((0,),), ((0,),)), ((0,),))
        self.assertEqual(tables.table_from(still, ((0,),), ((1,),)), ((0, 1),))
        self.assertEqual(tables.table_from(still, ((1,),), ((0,),)), ((0, 1),))

    def test_is_closed(self):
        self.assertIs(tables.is_closed(LATCH_NET, ((0, 1), (0, 1))), True)
        self.assertIs(tables.is_closed(LATCH_NET, ((0,), (0, 1))), False)
        self.assertIs(tables.is_closed(LATCH_NET, ((1,), (0,))), False)
        self.assertIs(tables.is_closed(THREE_NET, all_states(THREE_NET)), True)
        rng = random.Random(38)
        seen = {True: 0, False: 0}
        for net in random_nets(80, steady=True):
            for _ in range(6):
                box = random_lots(rng, [len(worker[1]) for worker in net[0]])
                lots = shown_lots(net, box)
                closed = all(0 in entry for entry in box) and all(
                    plain_results(worker[2][state], lots) <= set(entry)
                    for worker, entry in zip(net[0], box) for state in entry)
                self.assertIs(tables.is_closed(net, box), closed)
                seen[closed] += 1
        self.assertGreater(min(seen.values()), 10)

    def test_growth(self):
        self.assertEqual(tables.growth_of(LATCH_NET), GROWTH)
        for net in random_nets(80) + [FREE_NET]:
            rows = tables.growth_of(net)
            self.assertTrue(plain_growth(net, rows))
            self.assertIs(tables.is_growth(net, rows), True)
            for row in list(rows):
                self.assertIsInstance(row, tuple)

    def test_growth_in_other_orders(self):
        rng = random.Random(39)
        seen = {True: 0, False: 0}
        for net in random_nets(80, most_states=5, depth=1) + random_nets(60, most_workers=2, most_states=5):
            rows = tables.growth_of(net)
            many = len(net[0])
            for _ in range(8):
                later = rows[many:]
                rng.shuffle(later)
                other = rows[:many] + later
                self.assertIs(tables.is_growth(net, other), plain_growth(net, other))
                seen[plain_growth(net, other)] += other != rows
            turned = rows[::-1]
            self.assertIs(tables.is_growth(net, turned), plain_growth(net, turned))
        self.assertGreater(min(seen.values()), 10)

    def test_growth_with_one_place_changed(self):
        for net in [LATCH_NET, FREE_NET] + random_nets(12):
            rows = tables.growth_of(net)
            for bad in exchanged(rows, wrong_kinds):
                self.assertIs(tables.is_growth(net, bad), plain_growth(net, bad), bad)
            for other in exchanged(rows, doubtful_kinds):
                self.assertIs(tables.is_growth(net, other), plain_growth(net, other), other)
            for index in range(len(rows)):
                self.assertIs(tables.is_growth(net, rows[:index] + rows[index + 1:]), False)

    def test_growth_named_faults(self):
        for bad in (GROWTH[:3], GROWTH + GROWTH[3:], GROWTH + [(1, 0, 1, (1,))], [GROWTH[1], GROWTH[0]] + GROWTH[2:],
                    GROWTH[:2] + [GROWTH[3], GROWTH[2]], tuple(GROWTH), GROWTH[:3] + [(0, 1, 1, ())],
                    GROWTH[:3] + [(0, 1, 0, (True,))], GROWTH[:3] + [(False, 1, 0, (1,))],
                    GROWTH[:3] + [(0, True, 0, (1,))], GROWTH[:3] + [(0, 1, False, (1,))],
                    GROWTH[:3] + [(0, 1, 0, [1])], GROWTH[:3] + [[0, 1, 0, (1,)]], GROWTH[:3] + [(0, 1, 0, (1, 1))],
                    GROWTH[:3] + [(0, 1, 0, ())], [(False, 0, None, ())] + GROWTH[1:],
                    [(0, False, None, ())] + GROWTH[1:], [(0, 0, 0, ())] + GROWTH[1:]):
            self.assertIs(tables.is_growth(LATCH_NET, bad), False, bad)

    def test_growth_that_is_passed_in_is_as_before(self):
        for good, thing in ((True, list(GROWTH)), (False, GROWTH[:3] + [[0, 1, 0, [1]]])):
            kept = copy.deepcopy(thing)
            for _ in range(2):
                self.assertIs(tables.is_growth(LATCH_NET, thing), good)
                self.assertEqual(thing, kept)

    def test_growth_of_odd_values(self):
        for odd in odd_values():
            self.assertIs(tables.is_growth(LATCH_NET, odd), False)
            self.assertIs(tables.is_growth(LATCH_NET, [odd]), False)
            self.assertIs(tables.is_growth(LATCH_NET, GROWTH[:3] + [odd]), False)


class Ways(unittest.TestCase):
    def test_ways_step_by_step(self):
        for net in random_nets(120) + random_nets(40, most_states=5, depth=3):
            table = plain_table(net)
            lots = shown_lots(net, table)
            for worker, (_, shown, codes) in enumerate(net[0]):
                for state in range(len(shown)):
                    way = tables.way_to_state(net, worker, state)
                    if state not in table[worker]:
                        self.assertIsNone(way)
                        continue
                    if state == 0:
                        self.assertEqual(way, [])
                        continue
                    states = [at for at, _ in way] + [state]
                    self.assertEqual(states[0], 0)
                    self.assertEqual(len(set(states)), len(states))
                    for (at, answers), come in zip(way, states[1:]):
                        self.assertIn((answers, come), steps_of(codes[at], lots))

    def test_answers_of_letters_shown_in_the_table_alone(self):
        net = (((3, (0, 2), (("get", 0, (("go", 0), ("go", 1), ("go", 0))), ("go", 1))),), ())
        self.assertIsNone(tables.way_to_state(net, 0, 1))
        self.assertEqual(tables.way_to_state(LATCH_NET, 0, 1), [(0, (1,))])

    def test_errors(self):
        for odd in odd_values() + [2, -1, True]:
            if type(odd) is not int or not 0 <= odd < 2:
                with self.assertRaises(NoWorker) as caught:
                    tables.way_to_state(LATCH_NET, odd, odd)
                self.assertIs(caught.exception.worker, odd)
                with self.assertRaises(NoState) as caught:
                    tables.way_to_state(LATCH_NET, 1, odd)
                self.assertIs(caught.exception.state, odd)

    def test_returned_lists_are_new(self):
        for call in (lambda: tables.growth_of(LATCH_NET), lambda: tables.way_to_state(LATCH_NET, 0, 1),
                     lambda: tables.way_to_state(LATCH_NET, 0, 0)):
            first = call()
            kept = list(first)
            first.append(None)
            self.assertEqual(call(), kept)

    def test_many_states(self):
        many = 600
        steps = tuple(("get", 1, (("go", state), ("go", min(state + 1, many - 1)))) for state in range(many))
        net = (((2, (0,) * (many - 1) + (1,), steps), (2, (0, 1), (("go", 1), ("go", 0)))), ())
        self.assertTrue(lies_in(all_states(net), tables.table_of(net)))
        self.assertEqual(len(tables.way_to_state(net, 0, many - 1)), many - 1)
        self.assertIs(tables.is_growth(net, tables.growth_of(net)), True)


if __name__ == "__main__":
    unittest.main()
