"""DOC.md [50] to [53], and of the heading allendless/moduli.py the width; the heading allendless/strategies.py."""

import functools
import unittest
from fractions import Fraction

from allendless.leasttrees import least
from allendless.moduli import hardest, needed_places
from allendless.strategies import (
    best_strategy, certificate_strategy, depth_of, least_depth, least_mean, mean_of, mean_strategy)
from allendless.trees import ends_of
from tests.filling import ask, end, fillings, least_by_filling, other_order, pair_of, places_in, tree_of, value_at
from tests.making import Maker
from tests.test_leasttrees import MENUS
from tests.test_moduli import MAJORITY, trees
from tests.wrong import told_by, what_of

TOP = 10 ** 18 - 1
FUNCTIONS = (best_strategy, mean_strategy, least_depth, least_mean)


def least_costs(sizes, tree):
    """The least depth and the least mean, by all that can be asked first, and so on."""
    places = places_in(tree)

    @functools.lru_cache(maxsize=None)
    def cost(known):
        held = dict(known)
        free = [place for place in places if place not in held]
        if len({value_at(tree, {**held, **digits}) for digits in fillings(sizes, free)}) == 1:
            return 0, Fraction(0)
        depths, means = [], []
        for place in free:
            behind = [cost(tuple(sorted({**held, place: digit}.items()))) for digit in range(sizes[place[1]])]
            depths.append(1 + max(depth for depth, _ in behind))
            means.append(1 + sum(mean for _, mean in behind) / len(behind))
        return min(depths), min(means)
    return cost(())


def depth(tree):
    return 0 if tree[0] == "end" else 1 + max(depth(branch) for branch in tree[2])


def mean(tree):
    return Fraction(0) if tree[0] == "end" else 1 + sum(mean(branch) for branch in tree[2]) / len(tree[2])


def is_right(tree, above=()):
    """A tree in which no place stands twice on a way."""
    return tree[0] == "end" or tree[1] not in above and all(is_right(branch, above + (tree[1],)) for branch in tree[2])


class StrategiesTest(unittest.TestCase):
    def test_example(self):
        self.assertEqual((least_depth((2,), MAJORITY), least_mean((2,), MAJORITY)), (3, (5, 2)))

    def test_one_value(self):
        for tree in (end(4), ask(0, 0, 4, 4), ask(TOP, 0, end((1, 2)), end((1, 2)))):
            self.assertEqual((least_depth((2,), tree), least_mean((2,), tree)), (0, (0, 1)))
            self.assertEqual(best_strategy((2,), tree), end(ends_of(tree)[0][1]))
            self.assertEqual(mean_strategy((2,), tree), end(ends_of(tree)[0][1]))
        self.assertEqual((least_depth((), end(1)), depth_of(end(1)), mean_of((), end(1))), (0, 0, (0, 1)))

    def test_least_costs(self):
        for _, menu, _, tree in trees(12):
            deep, even = least_costs(menu, least_by_filling(menu, tree))
            self.assertEqual(least_depth(menu, tree), deep)
            self.assertEqual(least_mean(menu, tree), pair_of(even))
            one, other = best_strategy(menu, tree), mean_strategy(menu, tree)
            for strategy in (one, other):
                self.assertTrue(is_right(strategy))
                self.assertEqual(least(menu, strategy), least(menu, tree))
            self.assertEqual((depth_of(one), depth(one)), (deep, deep))
            self.assertEqual((mean_of(menu, other), mean(other)), (pair_of(even), even))

    def test_depth_and_mean_of_trees(self):
        for menu, places in MENUS:
            for seed in range(40):
                tree = Maker(seed).tree(menu, places, (0, 1), 5)
                self.assertEqual(depth_of(tree), depth(tree))
                self.assertEqual(mean_of(menu, tree), pair_of(mean(tree)))
        self.assertEqual(mean_of((2, 3), ask(0, 1, 1, ask(0, 0, 1, 1), 1)), (4, 3))

    def test_the_best_is_not_the_least_place(self):
        # Entry 9 tells which of the entries 0 and 1 counts.
        tree = ask(0, 0, ask(1, 0, 0, ask(9, 0, 0, 1)), ask(1, 0, ask(9, 0, 1, 0), 1))
        self.assertEqual((least_depth((2,), tree), depth_of(tree)), (2, 3))
        self.assertEqual(depth_of(best_strategy((2,), tree)), 2)

    def test_bounds_of_costs(self):
        for _, menu, _, tree in trees(8):
            deep, even = least_depth(menu, tree), Fraction(*least_mean(menu, tree))
            self.assertLessEqual(even, deep)
            self.assertLessEqual(deep, len(needed_places(menu, tree)))
            for value in (0, 1, (1, 2)):
                self.assertGreaterEqual(deep, hardest(menu, tree, value))

    def test_certificates(self):
        met = 0
        for menu, places in MENUS:
            for seed in range(25):
                maker = Maker(seed)
                tree = other_order(maker.random, menu, maker.tree(menu, places, (3, (4, 5)), 4), places)
                if least(menu, tree)[0] == "end":
                    self.assertEqual(told_by(certificate_strategy, menu, tree, 3), ("WrongKind",))
                    continue
                most = hardest(menu, tree, 3) * hardest(menu, tree, (4, 5))
                for value in (3, (4, 5)):
                    made = certificate_strategy(menu, tree, value)
                    self.assertTrue(is_right(made))
                    self.assertEqual(least(menu, made), least(menu, tree))
                    self.assertLessEqual(depth(made), most)
                    met += 1
        self.assertGreater(met, 60)
        self.assertEqual(depth_of(certificate_strategy((2,), MAJORITY, 1)), 3)

    def test_wrong_values(self):
        for tree, values in ((end(1), (1, 0)), (ask(0, 0, 1, 1), (1,)), (ask(0, 0, 1, ask(1, 0, 2, 3)), (1, 2, 3)), (ask(0, 0, 1, 2), (0, 3, True, (1, 2)))):
            for value in values:
                self.assertEqual(told_by(certificate_strategy, (2,), tree, value), ("WrongKind",))
        self.assertEqual(depth_of(certificate_strategy((2,), ask(0, 0, 1, 2), 2)), 1)

    def test_width(self):
        # 3 ** 9 is 19,683, and 3 ** 10 too much.
        nine = tree_of((2,), [(i, 0) for i in range(9)], lambda digits: sum(digits.values()) % 2)
        ten = tree_of((2,), [(i, 0) for i in range(10)], lambda digits: sum(digits.values()) % 2)
        self.assertEqual((least_depth((2,), nine), least_mean((2,), nine)), (9, (9, 1)))
        # 10 * 10 * 10 * 5 * 4 is 20,000; one more digit is too much.
        sizes, places = (9, 4, 3), [(0, 0), (0, 1), (0, 2), (1, 0), (2, 0)]
        exact = some_of(sizes, places)
        self.assertEqual(least_depth(sizes, exact), 5)
        self.assertEqual(depth_of(best_strategy(sizes, exact)), 5)
        self.assertEqual(what_of(least_depth, (9, 5, 3), some_of((9, 5, 3), places)), "places")
        for function in FUNCTIONS:
            self.assertEqual(what_of(function, (2,), ten), "places")
            self.assertIsNone(what_of(function, (2,), ask(77, 0, nine, nine)))
        # Ahead of WrongKind.
        for value in (0, 1, 2):
            self.assertEqual(what_of(certificate_strategy, (2,), ten, value), "places")
        three = tree_of((2,), [(i, 0) for i in range(10)], lambda digits: sum(digits.values()) % 3)
        self.assertEqual(what_of(certificate_strategy, (2,), three, 0), "places")
        self.assertEqual(told_by(certificate_strategy, (2,), nine, 2), ("WrongKind",))

    def test_great_strategies(self):
        # A strategy may have more nodes than trees that are handed in.
        sizes, places = (9, 4, 3), [(0, 0), (0, 1), (0, 2), (1, 0), (2, 0)]
        tree = some_of(sizes, places)
        for strategy in (best_strategy(sizes, tree), mean_strategy(sizes, tree), certificate_strategy(sizes, tree, 1)):
            for digits in list(fillings(sizes, places))[::97]:
                self.assertEqual(value_at(strategy, digits), value_at(tree, digits))


def some_of(sizes, places):
    """1 if all entries are 0, otherwise 0: all places are needed, and few nodes tell it."""
    tree = end(1)
    for i, k in reversed(places):
        tree = ask(i, k, tree, *[0] * (sizes[k] - 1))
    return tree


if __name__ == "__main__":
    unittest.main()
