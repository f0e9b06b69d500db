"""The functions that trees and contests are worked out with: [31] and [32] of DOC.md hold for them."""

import unittest
from unittest import mock

from allendless.leasttrees import least_of
from allendless.needed import Functions
from allendless.trees import ends_of
from tests import simple
from tests.filling import least_by_filling, needed_by_filling, other_order
from tests.making import Maker


class NeededTest(unittest.TestCase):
    def test_the_least_needed_place(self):
        places = [(i, 0) for i in range(5)]
        for seed in range(400):
            maker = Maker(seed)
            tree = maker.tree((2,), places, (0, 0, 1), 4)
            functions = Functions()
            number = functions.number_of(tree)
            ends = [({i: digit for (i, _), digit in known}, value) for known, value in ends_of(tree)]
            self.check(functions, number, ends)
            self.assertEqual(functions.places_of(number), needed_by_filling((2,), tree))

    def check(self, functions, number, ends):
        lowest = functions.lowests[number]
        needed = simple.least_needed(ends)
        if needed is None:
            self.assertEqual((lowest, functions.ends[number]), (None, ("end", ends[0][1])))
            return
        self.assertEqual(lowest, (needed, 0))
        for digit in (0, 1):
            left = [(simple.without(known, needed), value) for known, value in ends if known.get(needed, digit) == digit]
            self.check(functions, functions.given_lowest(number, digit), left)

    def test_the_same_function_by_unlike_trees(self):
        functions = Functions()
        one = functions.number_of(("ask", (0, 0), (("ask", (1, 0), (("end", 1), ("end", 2))), ("ask", (1, 0), (("end", 3), ("end", 4))))))
        other = functions.number_of(("ask", (1, 0), (("ask", (0, 0), (("end", 1), ("end", 3))), ("ask", (0, 0), (("end", 2), ("end", 4))))))
        third = functions.number_of(("ask", (1, 0), (("ask", (0, 0), (("end", 1), ("end", 3))), ("ask", (0, 0), (("end", 2), ("end", 3))))))
        self.assertEqual(one, other)
        self.assertNotEqual(one, third)
        self.assertEqual(functions.ask_for((7, 0), (one, other)), one)
        self.assertNotEqual(functions.ask_for((7, 0), (one, third)), one)

    def test_like_marks_are_not_believed(self):
        places = [(i, k) for i in range(3) for k in range(2)]
        for many in (1, 2, 3):
            with mock.patch("allendless.needed._mixed", lambda number: number % many):
                for seed in range(60):
                    maker = Maker(seed)
                    tree = maker.tree((2, 3), places, (0, 1, (0, 1)), 4)
                    other = maker.tree((2, 3), places, (0, 1, (0, 1)), 4)
                    functions = Functions()
                    number = functions.number_of(tree)
                    self.assertEqual(least_of(functions, number, None), least_by_filling((2, 3), tree))
                    again = other_order(maker.random, (2, 3), tree)
                    self.assertEqual(functions.number_of(again), number)
                    is_same = least_by_filling((2, 3), tree) == least_by_filling((2, 3), other)
                    self.assertEqual(functions.number_of(other) == number, is_same)


if __name__ == "__main__":
    unittest.main()
