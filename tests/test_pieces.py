"""Tests of the pieces [6], [45]."""

import random
import unittest

from oldletters import pieces
from oldletters.codes import steps_of
from tests.samples import (
    LATCH_NET, THREE_NET, check_new, every_entry, in_box, plain_greatest, plain_piece, plain_results, plain_ways,
    random_entry, random_lots, random_nets, small_nets)

NETS = [LATCH_NET, THREE_NET] + small_nets(60, steady=True) + random_nets(50, most_states=5, depth=3, steady=True)


def cases():
    """Yield (net, worker, states, lots) of many kinds."""
    rng = random.Random(45)
    for net in NETS:
        for worker, (_, shown, _) in enumerate(net[0]):
            for _ in range(6):
                yield net, worker, random_entry(rng, len(shown)), random_lots(rng, [row[0] for row in net[0]])
            yield net, worker, tuple(range(len(shown))), random_lots(rng, [row[0] for row in net[0]])


def steps_among(net, worker, states, lots):
    """Return all (state, answers, state come to) among the states."""
    return [(before, answers, state) for before in states
            for answers, state in steps_of(net[0][worker][2][before], lots) if state in states]


class Pieces(unittest.TestCase):
    def test_edges(self):
        for net, worker, states, lots in cases():
            edges = pieces.edges_of(net, worker, states, lots)
            self.assertIsInstance(edges, dict)
            self.assertEqual(list(edges.items()), [
                (before, sorted(plain_results(net[0][worker][2][before], lots) & set(states))) for before in states])

    def test_single_states(self):
        net = (((2, (0, 1, 0), (("get", 0, (("go", 0), ("go", 1))), ("go", 2), ("go", 1))),), ())
        self.assertIs(pieces.is_piece(net, 0, (0,), ((0,),)), True)
        self.assertIs(pieces.is_piece(net, 0, (0,), ((1,),)), False)
        self.assertIs(pieces.is_piece(net, 0, (1,), ((0, 1),)), False)
        self.assertIs(pieces.is_piece(net, 0, (1, 2), ((0,),)), True)
        self.assertIs(pieces.is_piece(net, 0, (0, 1, 2), ((0, 1),)), False)
        self.assertEqual(pieces.walk_through(net, 0, (0,), ((0,),)), [(0, (0,))])
        self.assertEqual(pieces.full_walk(net, 0, (0,), ((0,),)), [(0, (0,))])
        self.assertIsNone(pieces.walk_through(net, 0, (0,), ((1,),)))
        self.assertIsNone(pieces.full_walk(net, 0, (1,), ((0, 1),)))
        self.assertEqual(pieces.pieces_of(net, 0, (0, 1, 2), ((0,),)), [(0,), (1, 2)])
        self.assertEqual(pieces.pieces_of(net, 0, (1,), ((0,),)), [])
        self.assertEqual(pieces.levels_of(net, 0, (1,), ((0,),)), [(1,)])
        self.assertEqual(pieces.levels_of(net, 0, (0, 1), ((0, 1),)), [(0,), (1,)])

    def test_pieces_against_all_tuples(self):
        seen = {True: 0, False: 0}
        for net, worker, states, lots in cases():
            right = []
            for some in every_entry(states[-1] + 1):
                if set(some) <= set(states):
                    is_right = plain_piece(net, worker, some, lots)
                    self.assertIs(pieces.is_piece(net, worker, some, lots), is_right)
                    right += [some] if is_right else []
                    seen[is_right] += 1
            greatest = [some for (some,) in plain_greatest([(some,) for some in right])]
            self.assertEqual(pieces.pieces_of(net, worker, states, lots), sorted(greatest))
        self.assertGreater(min(seen.values()), 1000)

    def test_levels(self):
        many = set()
        for net, worker, states, lots in cases():
            levels = pieces.levels_of(net, worker, states, lots)
            found = pieces.pieces_of(net, worker, states, lots)
            within = [state for piece in found for state in piece]
            self.assertIsInstance(levels, list)
            self.assertEqual(sorted(levels), sorted(found + [(state,) for state in states if state not in within]))
            for index, level in enumerate(levels):
                for state in level:
                    for earlier in levels[:index]:
                        self.assertFalse(plain_results(net[0][worker][2][state], lots) & set(earlier))
            many.add(len(levels))
        self.assertGreaterEqual(many, {1, 2, 3, 4})

    def test_walks(self):
        seen = {True: 0, False: 0}
        for net, worker, states, lots in cases():
            is_right = plain_piece(net, worker, states, lots)
            seen[is_right] += 1
            steps = steps_among(net, worker, states, lots)
            for call in (pieces.walk_through, pieces.full_walk):
                walk = call(net, worker, states, lots)
                if not is_right:
                    self.assertIsNone(walk)
                    continue
                self.assertIsInstance(walk, list)
                self.assertGreater(len(walk), 0)
                self.assertEqual(walk[0][0], states[0])
                come = [state for state, _ in walk[1:]] + [states[0]]
                done = [(before, answers, state) for (before, answers), state in zip(walk, come)]
                self.assertLessEqual(set(done), set(steps))
                self.assertEqual({before for before, _ in walk}, set(states))
                if call is pieces.full_walk:
                    self.assertEqual(set(done), set(steps))
        self.assertGreater(min(seen.values()), 100)

    def test_ways_through_other_states_do_not_count(self):
        net = (((1, (0, 0, 0), (("go", 1), ("go", 2), ("go", 0))),), ())
        self.assertIs(pieces.is_piece(net, 0, (0, 1, 2), ((0,),)), True)
        self.assertIs(pieces.is_piece(net, 0, (0, 1), ((0,),)), False)
        self.assertEqual(plain_ways(net, 0, (0, 1), [{0}]), {(0, 1)})
        self.assertEqual(pieces.levels_of(net, 0, (0, 1), ((0,),)), [(0,), (1,)])

    def test_more_letters_do_not_part_pieces(self):
        for net, worker, states, lots in cases():
            wide = tuple(tuple(range(row[0])) for row in net[0])
            for piece in pieces.pieces_of(net, worker, states, lots):
                homes = [more for more in pieces.pieces_of(net, worker, states, wide) if in_box((piece,), (more,))]
                self.assertEqual(len(homes), 1)

    def test_many_states(self):
        many = 600
        codes = tuple(("get", 0, (("go", (at + 1) % many), ("go", at))) for at in range(many))
        net = (((2, (0,) * many, codes),), ())
        states = tuple(range(many))
        self.assertIs(pieces.is_piece(net, 0, states, ((0,),)), True)
        self.assertIs(pieces.is_piece(net, 0, states[1:], ((0,),)), False)
        self.assertEqual(pieces.levels_of(net, 0, states[1:], ((0, 1),)), [(state,) for state in states[1:]])
        self.assertEqual(pieces.pieces_of(net, 0, states, ((1,),)), [(state,) for state in states])
        self.assertEqual(len(set(pieces.full_walk(net, 0, states, ((0, 1),)))), 2 * many)

    def test_what_is_returned_is_new(self):
        for call in (pieces.edges_of, pieces.pieces_of, pieces.levels_of, pieces.walk_through, pieces.full_walk):
            check_new(self, lambda: call(LATCH_NET, 1, (0, 1), ((0, 1), (0, 1))))


if __name__ == "__main__":
    unittest.main()
