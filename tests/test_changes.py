"""Tests of what a change of edition leaves behind for ever [71]."""

import copy
import random
import unittest

from oldletters import changes
from oldletters.ends import is_end
from oldletters.errors import IsSteady, NoEnd, NoRound, Unlike
from oldletters.nets import all_states, shown_lots
from oldletters.tables import table_of
from tests.samples import (
    LATCH_NET, TURN, all_boxes, check_new, check_steady_first, doubtful_kinds, exchanged, in_box, lazy_code,
    odd_values, plain_ends, plain_greatest, plain_held_up, plain_results, plain_shown, random_net, small_nets,
    wrong_kinds)

ELDER = (((3, (2,), (("go", 0),)), (1, (0,), (("go", 0),))), ())
STEP = ("get", 0, (("go", 0), ("go", 0), ("go", 1)))
NEWER = (((3, (0,), (("go", 0),)), (1, (0, 0), (STEP, ("go", 1)))), ())
ALONE = (((1, (0, 0), (("go", 1), ("go", 0))),), ())


def drawn_editions(many, most_workers=2):
    """Return so many tuples (elder, newer) of small nets, all of whose moments can be tried."""
    rng = random.Random(many)
    pairs = []
    while len(pairs) < many:
        letters = [2 + (rng.random() < 0.2) for _ in range(rng.randint(1, most_workers))]
        nets = []
        for _ in range(2):
            workers = []
            for mine in letters:
                states = rng.randint(1, 3)
                codes = tuple(lazy_code(rng, letters, states, here, rng.randint(1, 2)) for here in range(states))
                workers.append((mine, tuple(rng.randrange(mine) for _ in range(states)), codes))
            nets.append((tuple(workers), ()))
        pairs.append(tuple(nets))
    return pairs


def plain_rolling(elder, newer):
    """Return the set of all (where, letters shown so far) of runs that roll; where has (edition, state)."""
    nets = (elder, newer)
    many = range(len(elder[0]))
    first = (tuple((0, 0) for _ in many), tuple(frozenset([worker[1][0]]) for worker in elder[0]))
    found = {first}
    waiting = [first]
    while waiting:
        where, seen = waiting.pop()
        for worker in many:
            edition, state = where[worker]
            come = [(edition, other) for other in plain_results(nets[edition][0][worker][2][state], seen)]
            for place in come + [(0, 0), (1, 0)]:
                letters = seen[worker] | {nets[place[0]][0][worker][1][place[1]]}
                moment = (where[:worker] + (place,) + where[worker + 1:],
                          seen[:worker] + (letters,) + seen[worker + 1:])
                if moment not in found:
                    found.add(moment)
                    waiting.append(moment)
    return found


def plain_rolled_ends(newer, moments):
    """Return all ends of rolling: held up, with all of newer within it and its letters shown at some moment."""
    ends = []
    for box in all_boxes(newer):
        if plain_held_up(newer, box):
            lots = plain_shown(newer, box)
            if any(all(edition == 1 and state in entry for (edition, state), entry in zip(where, box))
                   and all(letters <= shown for letters, shown in zip(lots, seen)) for where, seen in moments):
                ends.append(box)
    return ends


def plain_go(net, worker, state, answers, seen):
    """Return the state come to by answers that have been shown, or None."""
    code = net[0][worker][2][state]
    rest = list(answers)
    while code[0] == "get":
        if not rest or rest[0] not in seen[code[1]]:
            return None
        code = code[2][rest.pop(0)]
    return None if rest else code[1]


def is_form(net, thing):
    """Tell whether thing is an endless run that rolls, by form."""
    def counts(some):
        return isinstance(some, tuple) and all(type(one) is int and one >= 0 for one in some)

    def index(one, many):
        return type(one) is int and 0 <= one < many
    if not isinstance(thing, tuple) or len(thing) != 2 or not all(isinstance(rows, list) for rows in thing):
        return False
    workers = len(net[0])
    for deed in thing[0]:
        if not isinstance(deed, tuple) or len(deed) != 3 or not index(deed[1], workers):
            return False
        if not (deed[0] == "step" and counts(deed[2]) or deed[0] == "fall" and index(deed[2], 2)):
            return False
    return bool(thing[1]) and all(isinstance(step, tuple) and len(step) == 2 and index(step[0], workers)
                                  and counts(step[1]) for step in thing[1])


def plain_end_of_rolling(elder, newer, thing):
    """Return the end, or the index at which it fails."""
    if not is_form(newer, thing):
        return 0
    nets = (elder, newer)
    way, steps = thing
    where = [(0, 0) for _ in elder[0]]
    seen = [{worker[1][0]} for worker in elder[0]]
    for index, (word, worker, rest) in enumerate(way):
        edition, state = where[worker]
        where[worker] = (rest, 0) if word == "fall" else (edition, plain_go(nets[edition], worker, state, rest, seen))
        edition, state = where[worker]
        if state is None:
            return index
        seen[worker].add(nets[edition][0][worker][1][state])
    if any(edition == 0 for edition, _ in where):
        return len(way) + len(steps)
    begun = [state for _, state in where]
    at = list(begun)
    before = []
    come = [set() for _ in begun]
    for index, (worker, answers) in enumerate(steps):
        before.append(at[worker])
        at[worker] = plain_go(newer, worker, at[worker], answers, seen)
        if at[worker] is None:
            return len(way) + index
        seen[worker].add(newer[0][worker][1][at[worker]])
        come[worker].add(at[worker])
    again = [{worker[1][state] for state in states} for worker, states in zip(newer[0], come)]
    for index, (worker, answers) in enumerate(steps):
        if plain_go(newer, worker, before[index], answers, again) is None:
            return len(way) + index
    if at != begun or not all(come):
        return len(way) + len(steps)
    return tuple(tuple(sorted(states)) for states in come)


class Changes(unittest.TestCase):
    def check_end(self, elder, newer, thing):
        """Check end_of_rolling, and return what a plain walk says."""
        wanted = plain_end_of_rolling(elder, newer, thing)
        kept = copy.deepcopy(thing)
        if isinstance(wanted, tuple):
            self.assertEqual(changes.end_of_rolling(elder, newer, thing), wanted)
        else:
            with self.assertRaises(NoRound) as caught:
                changes.end_of_rolling(elder, newer, thing)
            self.assertEqual(caught.exception.index, wanted, thing)
        self.assertEqual(thing, kept)
        return wanted

    def test_example(self):
        self.assertEqual(changes.left_behind(ELDER, NEWER), [((0,), (1,))])
        self.assertEqual(changes.rolled_boxes(ELDER, NEWER), (((0,), (0,)), ((0,), (0, 1))))
        self.assertEqual(changes.rolled_ends(ELDER, NEWER), [((0,), (0,)), ((0,), (1,))])
        self.assertEqual(changes.left_behind(NEWER, NEWER), [])
        self.assertEqual(changes.left_behind(NEWER, ELDER), [])

    def test_by_hand(self):
        way = [("fall", 1, 1), ("step", 1, (2,)), ("fall", 0, 1)]
        for thing, wanted in (
                ((way, [(0, ()), (1, ())]), ((0,), (1,))),
                ((way, [(1, ()), (0, ()), (1, ())]), ((0,), (1,))),
                ((way[:1] + way[2:], [(0, ()), (1, (0,))]), ((0,), (0,))),
                # An elder letter does not do for the round.
                ((way[:1] + way[2:], [(0, ()), (1, (2,))]), 3),
                ((way[1:], [(0, ()), (1, ())]), 0), ((way[:2], [(0, ()), (1, ())]), 4),
                ((way + [("fall", 0, 0)], [(0, ()), (1, ())]), 6),
                ((way + [("step", 1, (0,))], [(0, ()), (1, ())]), 3),
                ((way[:1] + [("step", 1, ())], [(0, ())]), 1), ((way, [(0, ())]), 4), ((way, [(0, ()), (1, (0,))]), 4),
                ((way, [(0, (0,)), (1, ())]), 3), ((way, []), 0), ((tuple(way), [(0, ())]), 0), ((way[1:], []), 0),
                ((way, [(0, ()), (1, ())], []), 0), ((way[:1] + [("step", 1, (1,))] + way[2:], [(0, ())]), 1),
                (([("fall", 0, 2)], [(0, ())]), 0), (([("fall", 2, 1)], [(0, ())]), 0), (([], [(2, ())]), 0),
                (([], [(0, ()), (1, ())]), 2), (([("fall", 0, True)], [(0, ())]), 0),
                (([("fall", 0)], [(0, ())]), 0), (([("step", 0, [])], [(0, ())]), 0),
                # That some worker is not of newer comes ahead of what the round lacks.
                ((way[:2], [(1, (7,))]), 3), ((way[:2], [(1, ()), (1, (0,))]), 4)):
            self.assertEqual(self.check_end(ELDER, NEWER, thing), wanted, thing)

    def test_rolled_boxes_and_ends_against_all_moments(self):
        left = 0
        for elder, newer in drawn_editions(60):
            moments = plain_rolling(elder, newer)
            boxes = [tuple(tuple(sorted({where[worker][1] for where, _ in moments if where[worker][0] == edition}))
                           for worker in range(len(elder[0]))) for edition in (0, 1)]
            self.assertEqual(changes.rolled_boxes(elder, newer), tuple(boxes))
            ends = plain_rolled_ends(newer, moments)
            greatest = plain_greatest(ends)
            self.assertEqual(changes.rolled_ends(elder, newer), greatest)
            behind = [box for box in greatest if not in_box(box, table_of(newer))]
            self.assertEqual(changes.left_behind(elder, newer), behind)
            if not behind:
                self.assertTrue(all(is_end(newer, box, "lossy") for box in ends))
            left += bool(behind)
            self.check_runs(elder, newer, ends)
        self.assertGreater(left, 5)
        self.assertLess(left, 50)

    def check_runs(self, elder, newer, ends):
        """Check rolled_run of all boxes."""
        for box in all_boxes(newer):
            if box in ends:
                thing = changes.rolled_run(elder, newer, box)
                self.assertTrue(is_form(newer, thing))
                self.assertEqual(self.check_end(elder, newer, thing), box)
            else:
                with self.assertRaises(NoEnd) as caught:
                    changes.rolled_run(elder, newer, box)
                self.assertIs(caught.exception.box, box)

    def test_larger_editions(self):
        rng = random.Random(71)
        for _ in range(25):
            elder = random_net(rng, most_workers=5, most_states=5, most_letters=4, depth=2)
            letters = [worker[0] for worker in elder[0]]
            newer = (tuple((mine, tuple(rng.randrange(mine) for _ in range(4)),
                            tuple(lazy_code(rng, letters, 4, here, 2) for here in range(4))) for mine in letters), ())
            two = changes.rolled_boxes(elder, newer)[1]
            for box in changes.rolled_ends(elder, newer):
                self.assertTrue(in_box(box, two) and plain_held_up(newer, box))
                self.check_end(elder, newer, changes.rolled_run(elder, newer, box))
                smaller = tuple(entry[:1] for entry in box)
                if plain_held_up(newer, smaller):
                    thing = changes.rolled_run(elder, newer, smaller)
                    self.assertEqual(self.check_end(elder, newer, thing), smaller)
                else:
                    with self.assertRaises(NoEnd):
                        changes.rolled_run(elder, newer, smaller)

    def test_changed_runs(self):
        rng = random.Random(72)
        kinds = {"form": 0, "way": 0, "round": 0, "all": 0, "end": 0}
        for elder, newer in drawn_editions(25) + [(ELDER, NEWER)]:
            for box in changes.rolled_ends(elder, newer)[:2]:
                thing = changes.rolled_run(elder, newer, box)
                changed = exchanged(thing, doubtful_kinds) + exchanged(thing, wrong_kinds)
                changed = rng.sample(changed, min(len(changed), 250))
                for which in (0, 1):
                    for index, row in enumerate(thing[which]):
                        rows = thing[which]
                        other = rng.randrange(len(rows))
                        swapped = list(rows)
                        swapped[index], swapped[other] = rows[other], row
                        for new in (rows[:index] + rows[index + 1:], rows[:index] + [row] + rows[index:], swapped):
                            changed.append((new, thing[1]) if which == 0 else (thing[0], new))
                for other in changed:
                    found = self.check_end(elder, newer, other)
                    if isinstance(found, tuple):
                        kinds["end"] += 1
                    elif not is_form(newer, other):
                        kinds["form"] += 1
                    elif found < len(other[0]):
                        kinds["way"] += 1
                    else:
                        kinds["round" if found < len(other[0]) + len(other[1]) else "all"] += 1
        self.assertGreater(min(kinds.values()), 100, kinds)

    def test_end_of_rolling_of_any_value(self):
        for thing in odd_values() + [([], []), ([], [(0,)]), ([()], [(0, ())]), ([("go", 0, 0)], [(0, ())])]:
            for elder, newer in ((ELDER, NEWER), (LATCH_NET, LATCH_NET)):
                with self.assertRaises(NoRound) as caught:
                    changes.end_of_rolling(elder, newer, thing)
                self.assertEqual(caught.exception.index, 0)

    def test_unlike_behind_steady(self):
        other_letters = (ELDER[0][:1] + (TURN,), ())
        calls = (changes.rolled_boxes, changes.rolled_ends, changes.left_behind,
                 lambda elder, newer: changes.rolled_run(elder, newer, ((0,), (0,))),
                 lambda elder, newer: changes.end_of_rolling(elder, newer, None))
        for call in calls:
            for elder, newer in ((ELDER, ALONE), (ALONE, ELDER), (ELDER, other_letters), (other_letters, NEWER)):
                with self.assertRaises(Unlike):
                    call(elder, newer)
                with self.assertRaises(IsSteady) as caught:
                    call(elder, (newer[0], (len(newer[0]) - 1,)))
                self.assertEqual(caught.exception.worker, len(newer[0]) - 1)
                # The first of the nets that has some, and its least one.
                with self.assertRaises(IsSteady) as caught:
                    call((elder[0], (len(elder[0]) - 1,)), (newer[0], (0,)))
                self.assertEqual(caught.exception.worker, len(elder[0]) - 1)
            with self.assertRaises(IsSteady) as caught:
                call((ELDER[0], (0, 1)), (NEWER[0], ()))
            self.assertEqual(caught.exception.worker, 0)
        check_steady_first(self, (changes.from_anything, changes.left_from_anything, changes.is_healing))

    def test_from_anything_against_all_boxes(self):
        seen = {True: 0, False: 0}
        for net in small_nets(60):
            held = [box for box in all_boxes(net) if plain_held_up(net, box)]
            greatest = plain_greatest(held)
            self.assertEqual(changes.from_anything(net), greatest)
            left = [box for box in greatest if not in_box(box, table_of(net))]
            self.assertEqual(changes.left_from_anything(net), left)
            self.assertIs(changes.is_healing(net), not left)
            if not left:
                self.assertEqual(sorted(plain_ends(net, "lossy")), held)
            seen[not left] += 1
        self.assertGreater(min(seen.values()), 10, seen)

    def test_from_anything_by_hand(self):
        self.assertEqual(changes.from_anything(LATCH_NET), [((1,), (0,))])
        self.assertEqual(changes.left_from_anything(LATCH_NET), [])
        self.assertIs(changes.is_healing(LATCH_NET), True)
        self.assertEqual(changes.left_from_anything(NEWER), [((0,), (1,))])
        self.assertIs(changes.is_healing(NEWER), False)
        self.assertEqual(all_states(NEWER), ((0,), (0, 1)))
        self.assertEqual(shown_lots(NEWER, ((0,), (1,))), ((0,), (0,)))

    def test_what_is_returned_is_new(self):
        for call in (changes.rolled_boxes, changes.rolled_ends, changes.left_behind,
                     lambda elder, newer: changes.rolled_run(elder, newer, ((0,), (1,)))):
            check_new(self, lambda: call(ELDER, NEWER))
        check_new(self, lambda: changes.from_anything(LATCH_NET))
        check_new(self, lambda: changes.left_from_anything(NEWER))


if __name__ == "__main__":
    unittest.main()
