"""DOC.md [36], and the heading allendless/sharing.py."""

import unittest

from allendless.data import data_text
from allendless.leasttrees import least
from allendless.sharing import shared, unshared
from allendless.trees import grafted, node_count
from tests.filling import ask, end, great_least, least_by_filling, other_order
from tests.making import Maker
from tests.test_leasttrees import MENUS, TOP, address
from tests.wrong import what_of


def parts_of(tree):
    """The unlike parts of a tree, branches ahead of asks, as they are met."""
    parts = []

    def go(part):
        if part[0] == "ask":
            for branch in part[2]:
                go(branch)
        if part not in parts:
            parts.append(part)
    go(tree)
    return parts


def form_of(tree):
    parts = parts_of(tree)
    return tuple(part if part[0] == "end" else ("ask", part[1], tuple(parts.index(branch) for branch in part[2])) for part in parts)


class SharingTest(unittest.TestCase):
    def test_example(self):
        alike = ask(0, 0, ask(1, 0, 1, 0), ask(1, 0, 0, 1))
        nodes = (("end", 1), ("end", 0), ("ask", (1, 0), (0, 1)), ("ask", (1, 0), (1, 0)), ("ask", (0, 0), (2, 3)))
        self.assertEqual(shared((2,), alike), nodes)
        self.assertEqual(unshared(nodes), alike)

    def test_ends(self):
        self.assertEqual(shared((), end((1, 2))), (("end", (1, 2)),))
        self.assertEqual(unshared((("end", (1, 2)),)), end((1, 2)))
        self.assertEqual(shared((2,), ask(TOP, 0, 3, 3)), (("end", 3),))

    def test_all_forms(self):
        for menu, places in MENUS:
            for seed in range(60):
                maker = Maker(seed)
                tree = maker.tree(menu, places, (0, 1, 1, (1, 2)), 5)
                wanted = least_by_filling(menu, tree)
                nodes = shared(menu, tree)
                self.assertEqual(nodes, form_of(wanted))
                self.assertEqual(unshared(nodes), wanted)
                self.assertEqual(shared(menu, other_order(maker.random, menu, tree)), nodes)
                for number, node in enumerate(nodes):
                    self.assertTrue(node[0] == "end" or max(node[2]) < number)

    def test_bounds(self):
        self.assertEqual(len(shared((2, 3), great_least(998, 1))), 2000)
        self.assertEqual(what_of(shared, (2, 3), great_least(1000, 0)), "tree")
        self.assertEqual(what_of(shared, (2,), address(8, 1000)), "tree")

    def test_sums(self):
        # How many of the entries 0 to 8 are 1: few nodes, each for a number of entries and of 1s.
        def grow(i, many):
            return end(many) if i == 9 else ask(i, 0, grow(i + 1, many), grow(i + 1, many + 1))
        nodes = shared((2,), grow(0, 0))
        self.assertEqual(len(nodes), 10 + sum(range(1, 10)))
        self.assertEqual(unshared(nodes), grow(0, 0))

    def test_deep_forms(self):
        tree = end(1)
        for high in range(600, 0, -100):
            part = end(7)
            for i in range(high, high - 100, -1):
                part = ask(i, 0, 0, part)
            tree = part if high == 600 else grafted((2,), part, ((0, end(0)), (7, tree)))
        nodes = shared((2,), tree)
        self.assertEqual(len(nodes), 602)
        self.assertEqual(node_count(unshared(nodes)), 1201)
        self.assertEqual(data_text(unshared(nodes)), data_text(least((2,), tree)))


if __name__ == "__main__":
    unittest.main()
