"""Tests of the choices that other modules make."""

import unittest

from oldletters.choices import all_choices, all_subsets, are_more, boxes_in, has_all, least_subsets


class Choices(unittest.TestCase):
    def test_all_choices(self):
        self.assertEqual(all_choices([]), [()])
        self.assertEqual(all_choices([(0, 1), (5,), (2, 3)]), [(0, 5, 2), (0, 5, 3), (1, 5, 2), (1, 5, 3)])
        self.assertEqual(all_choices([(0, 1), ()]), [])

    def test_all_subsets(self):
        self.assertEqual(all_subsets([]), [()])
        self.assertEqual(all_subsets([4, 2]), [(), (4,), (2,), (4, 2)])
        self.assertEqual(len(all_subsets(list(range(6)))), 64)

    def test_has_all(self):
        self.assertIs(has_all((1, 2), (2,)), True)
        self.assertIs(has_all((1, 2), ()), True)
        self.assertIs(has_all((1, 2), (2, 3)), False)

    def test_least_subsets(self):
        self.assertEqual(least_subsets([0, 1, 2], lambda some: True), [()])
        self.assertEqual(least_subsets([0, 1, 2], lambda some: False), [])
        self.assertEqual(least_subsets([0, 1, 2, 3], lambda some: sum(some) >= 3), [(1, 2), (3,)])
        # More than a right tuple need not be right.
        self.assertEqual(least_subsets([0, 1, 2], lambda some: some in ((1,), (0, 2))), [(0, 2), (1,)])

    def test_boxes_in(self):
        self.assertEqual(sorted(boxes_in(((0, 2), (1,)))), [((0,), (1,)), ((0, 2), (1,)), ((2,), (1,))])
        self.assertEqual(len(boxes_in(((0, 1, 2), (0, 1), (0, 1, 2)))), 147)

    def test_are_more(self):
        for box, many in ((((0,), (0,)), 1), (((0, 1, 2), (0, 1), (0, 1, 2)), 147), (((0, 1, 2, 3),) * 3, 3375)):
            for most in (0, many - 1, many, many + 1, 10 ** 6):
                self.assertIs(are_more(box, most), many > most)
        self.assertIs(are_more((tuple(range(600)),) * 8, 512), True)


if __name__ == "__main__":
    unittest.main()
