"""DOC.md [55] to [61], and the heading allendless/shares.py."""

import itertools
import random
import unittest
from fractions import Fraction

from allendless.shares import (
    asked_shares, force, forces, independent, mean, shares_given, shares_of, swing, told_so_far, variance, weighed_shares)
from tests.filling import ask, end, fillings, other_order, pair_of, places_in, tree_of, value_at
from tests.making import Maker

TOP = 10 ** 18 - 1
MENUS = (((2,), [(0, 0), (1, 0), (2, 0), (3, 0), (TOP, 0)]), ((2, 3), [(0, 0), (0, 1), (1, 0), (1, 1), (2, 0)]),
         ((3, 2, 2), [(0, 0), (0, 1), (0, 2), (5, 1), (5, 2)]), ((2, 2, 3, 2), [(0, 3), (1, 0), (1, 2), (2, 1), (7, 3)]))
T = ask(0, 0, ask(1, 0, 0, 1), 1)


def trees(many=12, values=(0, 1, 3, 10)):
    """Menus, places, and a tree with another one for the same function that asks in another order."""
    for menu, places in MENUS:
        for seed in range(many):
            maker = Maker(seed)
            tree = maker.tree(menu, places, values, 5)
            yield maker, menu, places, tree, other_order(maker.random, menu, tree, places)


def table_of(menu, places, tree):
    return [value_at(tree, digits) for digits in fillings(menu, places)]


def spread_by(values):
    return tuple((value, pair_of(Fraction(values.count(value), len(values)))) for value in sorted(set(values)))


def mean_by(values):
    return Fraction(sum(values), len(values))


def variance_by(values):
    return mean_by([value * value for value in values]) - mean_by(values) ** 2


def force_by(menu, places, tree, place):
    found = []
    for digits in fillings(menu, places):
        found.append(variance_by([value_at(tree, {**digits, place: digit}) for digit in range(menu[place[1]])]))
    return mean_by(found)


def swing_by(menu, places, tree, place):
    changes = [value_at(tree, {**digits, place: digit}) != value_at(tree, digits)
               for digits in fillings(menu, places) for digit in range(menu[place[1]])]
    return mean_by(changes)


def asked_by(menu, places, tree, place):
    def is_asked(digits):
        part = tree
        while part[0] == "ask" and part[1] != place:
            part = part[2][digits[part[1]]]
        return part[0] == "ask"
    return mean_by([is_asked(digits) for digits in fillings(menu, places)])


class SpreadTest(unittest.TestCase):
    def test_example(self):
        self.assertEqual(shares_of((2,), T), ((0, (1, 4)), (1, (3, 4))))
        self.assertEqual((mean((2,), T), variance((2,), T)), ((3, 4), (3, 16)))
        self.assertEqual((force((2,), T, (0, 0)), force((2,), T, (1, 0))), ((1, 8), (1, 8)))
        self.assertEqual(forces((2,), T), (((0, 0), (1, 8)), ((1, 0), (1, 8))))
        self.assertEqual((swing((2,), T, (0, 0)), swing((2,), T, (1, 0))), ((1, 4), (1, 4)))
        self.assertEqual(asked_shares((2,), T), (((0, 0), (1, 1)), ((1, 0), (1, 2))))
        self.assertEqual(told_so_far((2,), T, ((0,),)), (1, 2))
        self.assertEqual(weighed_shares((2,), T, (((2, 3), (1, 3)),)), ((0, (4, 9)), (1, (5, 9))))

    def test_by_all_fillings(self):
        for _, menu, places, tree, again in trees():
            values = table_of(menu, places, tree)
            for one in (tree, again):
                self.assertEqual(shares_of(menu, one), spread_by(values))
                self.assertEqual(mean(menu, one), pair_of(mean_by(values)))
                self.assertEqual(variance(menu, one), pair_of(variance_by(values)))

    def test_pairs(self):
        for _, menu, places, tree, again in trees(10, ((0, 1), (0, (2,) * 2), (10, 0), (9, 9))):
            values = table_of(menu, places, tree)
            wanted = spread_by([str(value) for value in values])
            for one in (tree, again):
                self.assertEqual({(str(value), share) for value, share in shares_of(menu, one)}, set(wanted))
        tree = ask(0, 0, end((10, 0)), ask(1, 0, end((9, 9)), end((9, 10))))
        self.assertEqual(shares_of((2,), tree), (((9, 9), (1, 4)), ((9, 10), (1, 4)), ((10, 0), (1, 2))))

    def test_ends(self):
        self.assertEqual((shares_of((), end(5)), mean((), end(5)), variance((), end(5))), (((5, (1, 1)),), (5, 1), (0, 1)))
        self.assertEqual((forces((), end(5)), asked_shares((), end(5)), weighed_shares((), end(5), ())), ((), (), ((5, (1, 1)),)))
        self.assertEqual((shares_given((), end(5), end(1)), shares_given((), end(5), end(0))), (((5, (1, 1)),), None))
        self.assertEqual(told_so_far((), end(5), ()), (5, 1))
        self.assertEqual(mean((2,), end(0)), (0, 1))

    def test_great_numbers(self):
        tree = end(10 ** 900)
        for i in range(120):
            tree = ask(i, 0, 0, 0, 0, 0, 0, 0, 0, 0, tree)
        self.assertEqual(shares_of((9,), tree)[1], (10 ** 900, (1, 9 ** 120)))
        self.assertEqual(mean((9,), tree), (10 ** 900, 9 ** 120))
        part = Fraction(1, 9 ** 120)
        self.assertEqual(variance((9,), tree), pair_of(10 ** 1800 * part * (1 - part)))
        self.assertEqual(force((9,), tree, (7, 0)), pair_of(Fraction(10 ** 1800, 9 ** 119) * Fraction(8, 81)))
        self.assertEqual(swing((9,), tree, (7, 0)), pair_of(Fraction(1, 9 ** 119) * Fraction(16, 81)))


class GivenTest(unittest.TestCase):
    def test_by_all_fillings(self):
        for maker, menu, places, tree, again in trees():
            condition = maker.tree(menu, places, (0, 1), 4)
            along = [digits for digits in fillings(menu, places) if value_at(condition, digits) == 1]
            values = [value_at(tree, digits) for digits in along]
            for other in (condition, other_order(maker.random, menu, condition, places)):
                for one in (tree, again):
                    self.assertEqual(shares_given(menu, one, other), spread_by(values) if values else None)

    def test_never_and_always(self):
        self.assertIsNone(shares_given((2,), T, ask(5, 0, 0, 0)))
        self.assertEqual(shares_given((2,), T, ask(5, 0, 1, 1)), shares_of((2,), T))
        self.assertEqual(shares_given((2,), T, T), ((1, (1, 1)),))

    def test_told_so_far(self):
        for maker, menu, places, tree, again in trees(8):
            for _ in range(3):
                beginnings = tuple(tuple(maker.random.randrange(size) for _ in range(maker.random.randrange(9))) for size in menu)
                values = [value_at(tree, digits) for digits in fillings(menu, places) if all(
                    i >= len(beginnings[k]) or beginnings[k][i] == digit for (i, k), digit in digits.items())]
                told = pair_of(mean_by(values))
                for one in (tree, again):
                    self.assertEqual(told_so_far(menu, one, beginnings), told)
                for k, size in enumerate(menu):
                    longer = [told_so_far(menu, tree, beginnings[:k] + (beginnings[k] + (digit,),) + beginnings[k + 1:]) for digit in range(size)]
                    self.assertEqual(pair_of(sum(Fraction(*one) for one in longer) / size), told)
            self.assertEqual(told_so_far(menu, tree, ((),) * len(menu)), mean(menu, tree))


class IndependentTest(unittest.TestCase):
    def test_parities(self):
        # Any two are independent, and all three are not.
        one, other, both = ask(0, 0, 0, 1), ask(1, 0, 0, 1), ask(0, 0, ask(1, 0, 1, 0), ask(1, 0, 0, 1))
        for pair in itertools.permutations((one, other, both), 2):
            self.assertIs(independent((2,), pair), True)
        for order in itertools.permutations((one, other, both)):
            self.assertIs(independent((2,), order), False)
        # The same with more: any four of five parities that go round.
        ring = [ask(i, 0, ask((i + 1) % 5, 0, 0, 1), ask((i + 1) % 5, 0, 1, 0)) for i in range(5)]
        self.assertIs(independent((2,), tuple(ring)), False)
        for at in range(5):
            self.assertIs(independent((2,), tuple(ring[:at] + ring[at + 1:])), True)

    def test_few_and_alike(self):
        self.assertIs(independent((2,), ()), True)
        self.assertIs(independent((2,), (T,)), True)
        self.assertIs(independent((2,), (T, T)), False)
        self.assertIs(independent((2,), (end(1), T, end(1), ask(9, 0, 2, 2))), True)
        self.assertIs(independent((2,), (T, ask(2, 0, end((0, 1)), end((1, 1))))), True)
        # Both ask entry 0, but the second one needs it not.
        self.assertIs(independent((2,), (ask(0, 0, 0, 1), ask(0, 0, ask(1, 0, 0, 1), ask(1, 0, 0, 1)))), True)

    def test_values_that_never_meet(self):
        self.assertIs(independent((3,), (ask(0, 0, 0, 1, 1), ask(0, 0, 1, 0, 1))), False)
        self.assertIs(independent((4,), (ask(0, 0, 0, 0, 1, 1), ask(0, 0, 0, 1, 0, 1))), True)

    def test_many(self):
        self.assertIs(independent((2,), tuple(ask(i, 0, 0, 1) for i in range(60))), True)
        self.assertIs(independent((2,), tuple(ask(i, 0, 0, 1) for i in range(60)) + (ask(3, 0, 1, 2),)), False)

    def test_by_all_fillings(self):
        met = [0, 0]
        for menu, places in MENUS:
            for seed in range(60):
                maker = Maker(seed)
                many = maker.random.randrange(1, 4)
                held = [maker.tree(menu, maker.random.sample(places, 3), (0, 1), 3) for _ in range(many)]
                tables = [table_of(menu, places, tree) for tree in held]
                rows = list(zip(*tables))
                wanted = True
                for values in itertools.product(*[sorted(set(table)) for table in tables]):
                    part = Fraction(1)
                    for value, table in zip(values, tables):
                        part *= Fraction(table.count(value), len(table))
                    wanted = wanted and part == Fraction(rows.count(values), len(rows))
                met[wanted] += many > 1
                self.assertIs(independent(menu, tuple(held)), wanted)
        self.assertGreater(min(met), 20)


class ForcesTest(unittest.TestCase):
    def test_by_all_fillings(self):
        for _, menu, places, tree, again in trees(10):
            wanted = {place: force_by(menu, places, tree, place) for place in places}
            for one in (tree, again):
                for place in places:
                    self.assertEqual(force(menu, one, place), pair_of(wanted[place]))
                    self.assertEqual(swing(menu, one, place), pair_of(swing_by(menu, places, tree, place)))
                self.assertEqual(forces(menu, one), tuple((place, pair_of(wanted[place])) for place in places if wanted[place]))
                asked = tuple((place, pair_of(asked_by(menu, places, one, place))) for place in places_in(one))
                self.assertEqual(asked_shares(menu, one), asked)
            self.assertLessEqual(Fraction(*variance(menu, tree)), sum(wanted.values()))

    def test_other_places(self):
        for place in ((5, 0), (TOP, 0)):
            self.assertEqual((force((2,), T, place), swing((2,), T, place)), ((0, 1), (0, 1)))
        tree = ask(0, 0, ask(1, 0, 1, 2), ask(1, 0, 1, 2))
        self.assertEqual((force((2,), tree, (0, 0)), swing((2,), tree, (0, 0))), ((0, 1), (0, 1)))
        self.assertEqual(forces((2,), tree), (((1, 0), (1, 4)),))
        self.assertEqual(asked_shares((2,), tree), (((0, 0), (1, 1)), ((1, 0), (1, 1))))

    def test_sums(self):
        # The variance is the sum of the forces just for sums of functions of one entry each.
        menu, places = MENUS[1]
        tree = tree_of(menu, places, lambda digits: sum((at + 2) * digit ** 2 for at, digit in enumerate(digits.values())))
        self.assertEqual(sum(Fraction(*part) for _, part in forces(menu, tree)), Fraction(*variance(menu, tree)))
        tree = tree_of(menu, places, lambda digits: sum(digits.values()) % 2)
        self.assertGreater(sum(Fraction(*part) for _, part in forces(menu, tree)), Fraction(*variance(menu, tree)))

    def test_swings_of_events(self):
        for _, menu, _, tree, again in trees(15, (0, 1)):
            p = Fraction(*dict(shares_of(menu, tree)).get(1, (0, 1)))
            for one in (tree, again):
                asked = sum(Fraction(*part) * Fraction(*swing(menu, one, place)) for place, part in asked_shares(menu, one))
                self.assertLessEqual(2 * p * (1 - p), asked)

    def test_swings_of_pairs(self):
        tree = ask(0, 0, end((0, 1)), ask(1, 0, end((0, 1)), end((1, 0))))
        self.assertEqual(swing((2,), tree, (0, 0)), (1, 4))
        self.assertEqual(swing((3,), ask(0, 0, end((0, 1)), end((0, 2)), end((0, 1))), (0, 0)), (4, 9))


class WeightsTest(unittest.TestCase):
    def test_by_all_fillings(self):
        for maker, menu, places, tree, again in trees(12, (0, 1, 2, 5)):
            weights = []
            for size in menu:
                parts = [maker.random.randrange(4) for _ in range(size)]
                parts[maker.random.randrange(size)] += 1
                weights.append(tuple(pair_of(Fraction(part, sum(parts))) for part in parts))
            found = {}
            for digits in fillings(menu, places):
                part = Fraction(1)
                for (_, k), digit in digits.items():
                    part *= Fraction(*weights[k][digit])
                value = value_at(tree, digits)
                found[value] = found.get(value, 0) + part
            wanted = tuple((value, pair_of(found[value])) for value in sorted(found) if found[value])
            for one in (tree, again):
                self.assertEqual(weighed_shares(menu, one, tuple(weights)), wanted)
            even = tuple(((1, size),) * size for size in menu)
            self.assertEqual(weighed_shares(menu, tree, even), shares_of(menu, tree))

    def test_noughts(self):
        sure = (((0, 1), (1, 1)),)
        self.assertEqual(weighed_shares((2,), T, sure), ((1, (1, 1)),))
        self.assertEqual(weighed_shares((2,), T, (((1, 1), (0, 1)),)), ((0, (1, 1)),))
        self.assertEqual(weighed_shares((3,), ask(TOP, 0, 4, 5, 6), (((1, 2), (0, 1), (1, 2)),)), ((4, (1, 2)), (6, (1, 2))))

    def test_unlike_parts(self):
        weights = (((1, 6), (1, 10), (11, 15)),)
        self.assertEqual(weighed_shares((3,), ask(0, 0, 1, 2, 3), weights), ((1, (1, 6)), (2, (1, 10)), (3, (11, 15))))

    def test_long_ways(self):
        rng = random.Random(4)
        tree = end(1)
        for i in rng.sample(range(1000), 100):
            tree = ask(i, 0, tree, 0)
        self.assertEqual(weighed_shares((2,), tree, (((2, 3), (1, 3)),))[1], (1, (2 ** 100, 3 ** 100)))


if __name__ == "__main__":
    unittest.main()
