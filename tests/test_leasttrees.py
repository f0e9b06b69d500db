"""DOC.md [31] to [33], and the heading allendless/leasttrees.py."""

import random
import unittest

from allendless.data import data_text
from allendless.leasttrees import first_needed, is_least, least, settled_at
from allendless.trees import grafted, is_tree, led, node_count, paired, turned, value_on
from tests.filling import (
    ask, end, fillings, great_least, least_by_filling, needed_by_filling, nodes_of, other_order, places_in, value_at)
from tests.making import Maker
from tests.wrong import what_of

TOP = 10 ** 18 - 1
MENUS = (((2,), [(0, 0), (1, 0), (2, 0), (7, 0), (TOP, 0)]), ((2, 3), [(0, 0), (0, 1), (1, 0), (1, 1), (TOP, 0)]),
         ((3, 2, 2), [(0, 0), (0, 1), (0, 2), (5, 1), (5, 2)]), ((2, 2, 3, 2), [(0, 3), (1, 0), (1, 2), (2, 1), (TOP - 1, 3)]))


def address(bits, first, number=0):
    """A tree that asks far entries which near entry to ask: 2 ** bits of them, all of which count."""
    if bits == 0:
        return ask(number, 0, 0, 1)
    return ask(first + bits, 0, address(bits - 1, first, 2 * number), address(bits - 1, first, 2 * number + 1))


def backward(many, values):
    """A chain that asks the greatest index first, with a value for each end; put together as the package does it."""
    tree = end(values[0])
    for i in range(1, many + 1):
        tree = ask(i, 0, values[i], tree)
    return tree


def long_backward(many):
    tree = end(0)
    for high in range(many, 0, -100):
        low = max(0, high - 100)
        part = end(10 ** 6)
        for i in range(low + 1, high + 1):
            part = ask(i, 0, i, part)
        table = tuple((i, end(i)) for i in range(many + 1)) + ((10 ** 6, part),)
        tree = part if tree == end(0) else grafted((2,), tree, table)
    return tree


class LeastTest(unittest.TestCase):
    def test_examples(self):
        tree = ask(0, 0, ask(0, 1, 5, 5, 6), ask(0, 1, 5, 5, 6))
        self.assertEqual(least((2, 3), tree), ask(0, 1, 5, 5, 6))
        self.assertEqual(first_needed(tree), (0, 1))
        self.assertEqual(least((2, 3), ask(1, 0, ask(0, 0, 1, 2), 1)), ask(0, 0, 1, ask(1, 0, 2, 1)))

    def test_small_ones(self):
        for menu in ((), (2,), (9, 9, 9, 9)):
            self.assertEqual(least(menu, end((1, (2, 3)))), end((1, (2, 3))))
        self.assertEqual(least((2,), ask(TOP, 0, 4, 4)), end(4))
        self.assertEqual(least((2,), ask(TOP, 0, 4, 5)), ask(TOP, 0, 4, 5))
        # Values that look alike are not alike.
        tree = ask(0, 0, end((1, (2, 3))), end(((1, 2), 3)))
        self.assertEqual(least((2,), tree), tree)
        self.assertEqual(least((2,), ask(0, 0, end((12, 3)), end((1, 23)))), ask(0, 0, end((12, 3)), end((1, 23))))

    def test_one_least_tree_for_each_function(self):
        for menu, places in MENUS:
            for seed in range(60):
                maker = Maker(seed)
                tree = maker.tree(menu, places, (0, 1, 1, (1, 2)), 5)
                wanted = least_by_filling(menu, tree)
                self.assertEqual(least(menu, tree), wanted)
                for again in (other_order(maker.random, menu, tree, places), other_order(maker.random, menu, tree), wanted):
                    self.assertIs(is_tree(menu, again), True)
                    self.assertEqual(least(menu, again), wanted)
                needed = needed_by_filling(menu, tree)
                self.assertEqual(places_in(wanted), list(needed))
                self.assertEqual(first_needed(tree), needed[0] if needed else None)

    def test_trees_that_differ_in_one_end(self):
        rng = random.Random(7)
        places = [(i, 0) for i in range(5)]
        for seed in range(40):
            digits = {place: rng.randrange(2) for place in places}
            tree = ask(0, 0, 0, 1)
            other = ("end", 9)
            for place in reversed(places):
                branches = [tree, tree]
                branches[digits[place]] = other
                other = ("ask", place, tuple(branches)) if place != (0, 0) else ("ask", place, tuple(
                    [other if digit == digits[place] else end(digit) for digit in range(2)]))
            self.assertNotEqual(least((2,), tree), least((2,), other_order(rng, (2,), other)))

    def test_is_least(self):
        for tree in (end(0), ask(0, 0, 1, 2), ask(0, 0, 1, ask(0, 1, 1, 1, 2)), ask(3, 1, 1, ask(4, 0, 1, 2), 1),
                     ask(0, 0, ask(1, 0, 1, 2), ask(1, 0, 2, 1))):
            self.assertIs(is_least(tree), True)
        for tree in (ask(0, 0, 1, 1), ask(1, 0, 1, ask(0, 0, 1, 2)), ask(0, 1, 1, ask(0, 0, 1, 2), 1), ask(0, 0, 1, ask(5, 0, 2, 2)),
                     ask(0, 0, ask(1, 0, 1, 2), ask(1, 0, 1, 2)), ask(0, 0, end((1, 2)), end((1, 2)))):
            self.assertIs(is_least(tree), False)
        for menu, places in MENUS:
            for seed in range(40):
                tree = Maker(seed).tree(menu, places, (0, 1), 5)
                self.assertIs(is_least(tree), tree == least_by_filling(menu, tree))

    def test_settled(self):
        for menu, places in MENUS:
            for seed in range(40):
                maker = Maker(seed)
                tree = maker.tree(menu, places, (0, 1, 2), 5)
                rows = tuple(maker.told(size) for size in menu)
                wanted = least_by_filling(menu, tree)
                n = 0
                while wanted[0] == "ask":
                    n = wanted[1][0] + 1
                    i, k = wanted[1]
                    beginning, around = rows[k]
                    wanted = wanted[2][beginning[i] if i < len(beginning) else around[(i - len(beginning)) % len(around)]]
                self.assertEqual(settled_at(menu, tree, rows), n)
        self.assertEqual(settled_at((), end(4), ()), 0)
        self.assertEqual(settled_at((2,), ask(TOP, 0, 1, 1), (((), (0,)),)), 0)
        self.assertEqual(settled_at((2,), ask(TOP, 0, 1, 2), (((), (0,)),)), TOP + 1)
        tree = ask(3, 0, ask(1, 0, 1, 2), ask(1, 0, 1, 2))
        self.assertEqual(settled_at((2,), tree, (((0, 1), (0, 1)),)), 2)


class BoundsTest(unittest.TestCase):
    def test_nodes(self):
        for many, more in ((998, 1), (999, 0), (1000, 0)):
            tree = great_least(many, more)
            self.assertEqual(nodes_of(tree), 1 + 2 * many + 3 * more)
            self.assertIs(is_least(tree), True)
            turned_about = turned(tree, (0, 1))
            if nodes_of(tree) <= 2000:
                self.assertEqual(least((2, 3), turned_about), tree)
            else:
                self.assertEqual(what_of(least, (2, 3), tree), "tree")
        # What has too many nodes itself may have few in its least tree.
        self.assertEqual(least((2, 3), led(great_least(1000, 0), tuple((i, i % 1) for i in range(1001)))), end(0))

    def test_orders_that_make_least_trees_great(self):
        tree = address(8, 10 ** 6)
        self.assertEqual((node_count(tree), is_tree((2,), tree)), (1023, True))
        self.assertEqual(what_of(least, (2,), tree), "tree")
        self.assertEqual(first_needed(tree), (0, 0))
        # All near entries are alike; or their last bit tells them; or the numbers that end with six 1s are all above 58.
        self.assertEqual(settled_at((2,), ask(10 ** 7, 0, tree, tree), (((), (1,)),)), 256)
        self.assertEqual(settled_at((2,), tree, (((), (0, 1)),)), 10 ** 6 + 2)
        self.assertEqual(settled_at((2,), tree, (((0,) * 59, (1,)),)), 10 ** 6 + 7)
        tree = backward(120, range(121))
        self.assertEqual(what_of(least, (2,), tree), "tree")
        self.assertEqual((first_needed(tree), settled_at((2,), tree, (((), (0,)),))), ((1, 0), 121))

    def test_deep_trees(self):
        tree = long_backward(900)
        self.assertEqual(node_count(tree), 1801)
        self.assertIs(is_tree((2,), tree), True)
        self.assertIs(is_least(tree), False)
        self.assertEqual(what_of(least, (2,), tree), "tree")
        self.assertEqual(first_needed(tree), (1, 0))
        self.assertEqual(settled_at((2,), tree, (((), (0,)),)), 901)
        self.assertEqual(settled_at((2,), tree, (((0,) * 30, (1,)),)), 901)
        self.assertEqual(value_on(tree, (((0,) * 30, (1,)),)), 29)
        chain = end(0)
        for i in range(600, 0, -100):
            part = end(7)
            for at in range(i, i - 100, -1):
                part = ask(at, 0, 0, part)
            chain = part if i == 600 else grafted((2,), part, ((0, end(0)), (7, chain)))
        self.assertEqual(node_count(chain), 1201)
        self.assertIs(is_least(chain), True)
        self.assertEqual(data_text(least((2,), chain)), data_text(chain))

    def test_deep_values(self):
        tree = ask(0, 0, 1, 2)
        for _ in range(3000):
            tree = paired((2,), end(1), tree)
        self.assertEqual(node_count(least((2,), tree)), 3)
        self.assertIs(is_least(tree), True)
        self.assertEqual(first_needed(tree), (0, 0))
        self.assertEqual(settled_at((2,), tree, (((), (0,)),)), 1)

    def test_all_rows(self):
        menu, places = MENUS[1]
        for seed in range(30):
            tree = Maker(seed).tree(menu, places, (0, 1, 2), 5)
            made = least(menu, tree)
            for digits in fillings(menu, places):
                self.assertEqual(value_at(made, digits), value_at(tree, digits))


if __name__ == "__main__":
    unittest.main()
