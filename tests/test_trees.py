"""Tests of the trees and the greatest ends [10], [47]."""

import copy
import random
import unittest

from oldletters import trees
from oldletters.errors import NoEnd
from oldletters.nets import all_states
from tests.samples import (
    FAN, LATCH_NET, STAYS, THREE_NET, all_boxes, check_new, check_steady_first, doubtful_kinds, exchanged, in_box,
    odd_values, plain_ends, plain_greatest, plain_held_up, plain_results, plain_shown, plain_table, plain_ways,
    random_lots, random_nets, small_nets, wrong_kinds)

LEAF = ("leaf",)


def random_box(rng, net):
    return random_lots(rng, [len(shown) for _, shown, _ in net[0]])


def plain_levels(net, worker, entry, lots):
    """Return the levels of the states of an entry as a set, and all pairs between which a way leads."""
    ways = plain_ways(net, worker, entry, lots)
    return {tuple(one for one in entry if one == state or {(one, state), (state, one)} <= ways)
            for state in entry}, ways


def plain_tree(net, box, thing):
    """Tell whether thing is a tree of the box, without a look at the program."""
    if type(thing) is not tuple:
        return False
    if plain_held_up(net, box):
        return len(thing) == 1 and thing[0] == "leaf"
    if len(thing) != 4 or thing[0] != "branch" or type(thing[1]) is not int or not 0 <= thing[1] < len(box):
        return False
    _, worker, levels, below = thing
    lots = plain_shown(net, box)
    right, ways = plain_levels(net, worker, box[worker], lots)
    if len(ways) == len(box[worker]) ** 2 or type(levels) is not tuple or type(below) is not tuple:
        return False
    if not all(type(level) is tuple and all(type(state) is int for state in level) for level in levels):
        return False
    if len(levels) != len(right) or set(levels) != right:
        return False
    for index, level in enumerate(levels):
        for state in level:
            for earlier in levels[:index]:
                if plain_results(net[0][worker][2][state], lots) & set(earlier):
                    return False
    boxes = [box[:worker] + (level,) + box[worker + 1:] for level in levels if (level[0], level[0]) in ways]
    return len(boxes) == len(below) and all(plain_tree(net, one, tree) for one, tree in zip(boxes, below))


def every_tree(rng, net, box):
    """Return a right tree made with workers and levels by chance."""
    lots = plain_shown(net, box)
    split = []
    for worker, entry in enumerate(box):
        levels, ways = plain_levels(net, worker, entry, lots)
        if len(ways) != len(entry) ** 2:
            split.append((worker, levels, ways))
    if not split:
        return LEAF
    worker, levels, ways = rng.choice(split)
    order = []
    left = sorted(levels)
    rng.shuffle(left)
    while left:
        for level in left:
            if not any((other[0], level[0]) in ways for other in left if other != level):
                order.append(level)
                left.remove(level)
                break
    below = [every_tree(rng, net, box[:worker] + (level,) + box[worker + 1:]) for level in order
             if (level[0], level[0]) in ways]
    return ("branch", worker, tuple(order), tuple(below))


class Trees(unittest.TestCase):
    def test_example(self):
        one = (2, (0, 1), (("get", 1, (("go", 0), ("go", 1))), ("get", 1, (("go", 0), ("go", 1)))))
        other = (2, (1, 0), (("get", 0, (("go", 1), ("go", 0))), ("get", 0, (("go", 1), ("go", 0)))))
        self.assertEqual(trees.greatest_ends(((one, other), ())), [((0, 1), (0, 1))])
        self.assertEqual(trees.greatest_ends(LATCH_NET), [((1,), (0,))])

    def test_greatest_within_against_all_boxes(self):
        rng = random.Random(47)
        many = set()
        for net in small_nets(90):
            held = [box for box in all_boxes(net) if plain_held_up(net, box)]
            for box in [all_states(net)] + [random_box(rng, net) for _ in range(6)]:
                found = trees.greatest_within(net, box)
                self.assertIsInstance(found, list)
                self.assertEqual(found, plain_greatest([one for one in held if in_box(one, box)]))
                many.add(len(found))
        self.assertGreaterEqual(many, {0, 1, 2, 3, 4})

    def test_greatest_ends(self):
        many = set()
        for net in small_nets(90):
            every = plain_ends(net, "lossy")
            greatest = trees.greatest_ends(net)
            self.assertEqual(greatest, plain_greatest(every))
            self.assertGreaterEqual(len(greatest), 1)
            many.add(len(greatest))
            for box in all_boxes(net):
                if box in every:
                    homes = [end for end in greatest if in_box(box, end)]
                    self.assertEqual([trees.home_of(net, box)], homes)
                else:
                    with self.assertRaises(NoEnd) as caught:
                        trees.home_of(net, box)
                    self.assertIs(caught.exception.box, box)
            for one in greatest:
                for other in greatest:
                    self.assertTrue(one == other or any(not set(a) & set(b) for a, b in zip(one, other)))
        self.assertGreaterEqual(many, {1, 2, 3})

    def test_larger_nets(self):
        for net in random_nets(60, most_workers=5, most_states=5, most_letters=4, depth=3):
            table = plain_table(net)
            found = trees.greatest_ends(net)
            self.assertGreaterEqual(len(found), 1)
            for end in found:
                self.assertTrue(plain_held_up(net, end) and in_box(end, table))
                self.assertEqual(trees.home_of(net, end), end)
            self.assertIs(trees.is_tree(net, table, trees.tree_of(net, table)), True)

    def test_as_many_ends_as_can_be(self):
        net = ((STAYS,) * 5, ())
        found = trees.greatest_within(net, all_states(net))
        self.assertEqual(len(found), 3125)
        self.assertEqual(found, sorted(found))
        self.assertEqual(trees.greatest_ends(net), [((0,),) * 5])
        tree = trees.tree_of(net, all_states(net))
        self.assertIs(trees.is_tree(net, all_states(net), tree), True)
        self.assertEqual(len(trees.greatest_ends(((FAN,) * 5, ()))), 1024)

    def test_trees(self):
        rng = random.Random(48)
        seen = set()
        for net in small_nets(90):
            for box in [all_states(net), plain_table(net)] + [random_box(rng, net) for _ in range(4)]:
                tree = trees.tree_of(net, box)
                self.assertTrue(plain_tree(net, box, tree))
                self.assertIs(trees.is_tree(net, box, tree), True)
                self.assertEqual(tree == LEAF, plain_held_up(net, box))
                seen.add(tree[0] if len(tree) == 1 else (tree[0], len(tree[3])))
                other = every_tree(rng, net, box)
                self.assertTrue(plain_tree(net, box, other))
                self.assertIs(trees.is_tree(net, box, other), True)
        self.assertGreaterEqual(seen, {"leaf", ("branch", 0), ("branch", 1), ("branch", 2), ("branch", 3)})

    def test_other_right_trees(self):
        net = (((1, (0, 0), (("go", 0), ("go", 1))), (1, (0, 0), (("go", 0), ("go", 1)))), ())
        box = ((0, 1), (0, 1))
        for worker in (0, 1):
            for levels in (((0,), (1,)), ((1,), (0,))):
                inner = ("branch", 1 - worker, levels, (LEAF, LEAF))
                tree = ("branch", worker, levels[::-1], (inner, ("branch", 1 - worker, levels[::-1], (LEAF, LEAF))))
                self.assertIs(trees.is_tree(net, box, tree), True)
                self.assertIs(trees.is_tree(net, box, tree[:3] + ((LEAF, inner),)), False)
        down = (((1, (0, 0), (("go", 1), ("go", 1))),), ())
        self.assertIs(trees.is_tree(down, ((0, 1),), ("branch", 0, ((0,), (1,)), (LEAF,))), True)
        self.assertIs(trees.is_tree(down, ((0, 1),), ("branch", 0, ((1,), (0,)), (LEAF,))), False)

    def test_branch_of_a_worker_that_is_one_piece(self):
        net = (((1, (0, 0), (("go", 1), ("go", 0))), (1, (0, 0), (("go", 0), ("go", 1)))), ())
        box = ((0, 1), (0, 1))
        right = ("branch", 1, ((0,), (1,)), (LEAF, LEAF))
        self.assertIs(trees.is_tree(net, box, right), True)
        self.assertIs(trees.is_tree(net, box, ("branch", 0, ((0, 1),), (right,))), False)
        self.assertIs(trees.is_tree(net, box, ("branch", 0, ((0,), (1,)), (right, right))), False)

    def test_branch_with_no_trees(self):
        away = (((1, (0, 0), (("go", 1), ("go", 0))),), ())
        tree = ("branch", 0, ((1,),), ())
        self.assertEqual(trees.tree_of(away, ((1,),)), tree)
        self.assertIs(trees.is_tree(away, ((1,),), tree), True)
        self.assertEqual(trees.greatest_within(away, ((1,),)), [])
        for bad in (("branch", 0, ((1,),), (LEAF,)), ("branch", 0, ((1,),)), ("branch", 0, ((0,),), ()), LEAF,
                    ("branch", 0, ((1,), ()), ()), ("branch", 0, (), ()), ("branch", 1, ((1,),), ()),
                    ("branch", 0, ((True,),), ()), ("branch", False, ((1,),), ()), ("branch", 0, ([1],), ()),
                    ("branch", 0, [(1,)], ()), ("branch", 0, ((1,),), []), ["branch", 0, ((1,),), ()],
                    ("branch", -1, ((1,),), ()), ("branch", 0, ((1,), (1,)), ()), ("branch", 0, ((1, 1),), ())):
            self.assertIs(trees.is_tree(away, ((1,),), bad), False, bad)

    def test_trees_with_one_part_changed(self):
        rng = random.Random(49)
        nets = [net for net in small_nets(60) if 40 < len(repr(trees.tree_of(net, all_states(net)))) < 400][:12]
        for net in nets:
            box = all_states(net)
            for tree in (trees.tree_of(net, box), every_tree(rng, net, box)):
                for bad in exchanged(tree, wrong_kinds):
                    kept = copy.deepcopy(bad) if isinstance(bad, list) else bad
                    self.assertIs(trees.is_tree(net, box, bad), plain_tree(net, box, bad), bad)
                    self.assertEqual(bad, kept)
                for other in exchanged(tree, doubtful_kinds):
                    self.assertIs(trees.is_tree(net, box, other), plain_tree(net, box, other), other)
        self.assertEqual(len(nets), 12)

    def test_values_of_any_kind(self):
        held = ((0,), (0,))
        for net, box in ((LATCH_NET, ((0, 1), (0, 1))), (LATCH_NET, held), (((STAYS,), ()), ((0, 1),))):
            right = trees.tree_of(net, box)
            for odd in odd_values():
                for thing in (odd, (odd,), ("leaf", odd), ("branch", odd, odd, odd), ("branch", 0, odd, ()),
                              ("branch", 0, ((0,), (1,)), odd), ("branch", 0, (odd,), ()),
                              ("branch", 0, ((odd,),), ())):
                    self.assertIs(trees.is_tree(net, box, thing), plain_tree(net, box, thing), thing)
            self.assertIs(trees.is_tree(net, box, [right]), False)
            self.assertIs(trees.is_tree(net, box, list(right)), False)

    def test_steady_ahead_of_anything_else(self):
        for odd in odd_values():
            check_steady_first(self, [
                lambda net: trees.is_tree(net, odd, odd), lambda net: trees.is_tree(net, all_states(net), odd),
                lambda net: trees.tree_of(net, odd), lambda net: trees.greatest_within(net, odd),
                lambda net: trees.home_of(net, odd)])
        check_steady_first(self, [trees.greatest_ends])
        free = (THREE_NET[0], ())
        self.assertEqual(trees.greatest_ends(free), plain_greatest(plain_ends(free, "lossy")))

    def test_what_is_returned_is_new(self):
        check_new(self, lambda: trees.greatest_within(LATCH_NET, ((0, 1), (0, 1))))
        check_new(self, lambda: trees.greatest_ends(LATCH_NET))
        check_new(self, lambda: trees.tree_of(LATCH_NET, ((0, 1), (0, 1))))


if __name__ == "__main__":
    unittest.main()
