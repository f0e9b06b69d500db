"""The functions that contests are worked out with: [31] and [32] of DOC.md hold for them."""

import unittest

from allendless.needed import Functions
from allendless.trees import ends_of
from tests import simple
from tests.making import Maker


def kept(functions, tree):
    """The number of the function of a tree."""
    if tree[0] == "end":
        return functions.end_with(tree[1])
    return functions.ask_for(tree[1], tuple([kept(functions, branch) for branch in tree[2]]))


class NeededTest(unittest.TestCase):
    def test_the_least_needed_place(self):
        places = [(i, 0) for i in range(5)]
        for seed in range(400):
            maker = Maker(seed)
            tree = maker.tree((2,), places, (0, 0, 1), 4)
            functions = Functions()
            number = kept(functions, tree)
            ends = [({i: digit for (i, _), digit in known}, value) for known, value in ends_of(tree)]
            self.check(functions, number, ends)

    def check(self, functions, number, ends):
        lowest = functions.lowests[number]
        needed = simple.least_needed(ends)
        if needed is None:
            self.assertEqual((lowest, functions.shapes[number]), (None, ("end", ends[0][1])))
            return
        self.assertEqual(lowest, (needed, 0))
        for digit in (0, 1):
            left = [(simple.without(known, needed), value) for known, value in ends if known.get(needed, digit) == digit]
            self.check(functions, functions.given_lowest(number, digit), left)

    def test_the_same_function_by_unlike_trees(self):
        functions = Functions()
        one = kept(functions, ("ask", (0, 0), (("ask", (1, 0), (("end", 1), ("end", 2))), ("ask", (1, 0), (("end", 3), ("end", 4))))))
        other = kept(functions, ("ask", (1, 0), (("ask", (0, 0), (("end", 1), ("end", 3))), ("ask", (0, 0), (("end", 2), ("end", 4))))))
        third = kept(functions, ("ask", (1, 0), (("ask", (0, 0), (("end", 1), ("end", 3))), ("ask", (0, 0), (("end", 2), ("end", 3))))))
        self.assertIs(functions.is_same(one, other), True)
        self.assertIs(functions.is_same(one, third), False)
        self.assertEqual(functions.ask_for((7, 0), (one, other)), one)
        self.assertNotEqual(functions.ask_for((7, 0), (one, third)), one)

    def test_like_marks_are_not_believed(self):
        functions = Functions()
        one = kept(functions, ("ask", (0, 0), (("end", 1), ("end", 2))))
        other = kept(functions, ("ask", (0, 0), (("end", 2), ("end", 1))))
        functions.marks[other] = functions.marks[one]
        self.assertIs(functions.is_same(one, other), False)


if __name__ == "__main__":
    unittest.main()
