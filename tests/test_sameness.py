"""DOC.md [43] to [48], and the heading allendless/sameness.py."""

import itertools
import random
import unittest
from fractions import Fraction

from allendless.sameness import (
    distance, is_below, joined, least_above, least_unlike, met, nearest, parting, same, same_programs, settled_share)
from allendless.trees import led
from allendless.ways import ways
from tests.filling import (
    ask, end, fillings, great_least, least_by_filling, needed_by_filling, nodes_of, other_order, pair_of, places_in, told_entries, tree_of,
    value_at)
from tests.making import Maker
from tests.test_quantify import BIG
from tests.test_ways import P, program
from tests.wrong import told_by, what_of

TOP = 10 ** 18 - 1
Q = program("2 * count(r[0])", 2)
MENUS = (((2,), [(0, 0), (1, 0), (2, 0), (3, 0), (TOP, 0)]), ((2, 3), [(0, 0), (0, 1), (1, 0), (1, 1), (2, 0)]),
         ((3, 2, 2), [(0, 0), (0, 1), (0, 2), (5, 1), (5, 2)]), ((2, 2, 3, 2), [(0, 3), (1, 0), (1, 2), (2, 1), (7, 3)]))


def pairs(values=(0, 1, 1, 2), many=40):
    """Menus, places, and two trees: unlike ones, often nearly alike, and the same one in another order."""
    for menu, places in MENUS:
        for seed in range(many):
            maker = Maker(seed)
            tree = maker.tree(menu, places, values, 5)
            yield menu, places, tree, maker.tree(menu, places, values, 5)
            again = other_order(maker.random, menu, tree, places)
            yield menu, places, tree, again
            yield menu, places, tree, changed_at_an_end(maker.random, again, values)


def changed_at_an_end(rng, tree, values):
    if tree[0] == "end":
        return end(rng.choice(values))
    at = rng.randrange(len(tree[2]))
    return ("ask", tree[1], tuple(changed_at_an_end(rng, branch, values) if at == i else branch for i, branch in enumerate(tree[2])))


def unlike_rows(menu, places, tree, other):
    return [digits for digits in fillings(menu, places) if value_at(tree, digits) != value_at(other, digits)]


class SameTest(unittest.TestCase):
    def test_example(self):
        self.assertIs(same((2,), ways(P), ways(Q)), False)
        self.assertIs(same_programs(P, Q), False)
        self.assertEqual(least_unlike((2,), ways(P), ways(Q)), (((0, 0), 1),))
        self.assertIs(same_programs(P, program("count(r[0]) * (1 + count(r[1]))", 2)), True)

    def test_by_all_fillings(self):
        for menu, places, tree, other in pairs():
            unlike = unlike_rows(menu, places, tree, other)
            self.assertIs(same(menu, tree, other), not unlike)
            self.assertEqual(least_unlike(menu, tree, other), told_entries(unlike[0]) if unlike else None)
            many = len(list(fillings(menu, places)))
            self.assertEqual(distance(menu, tree, other), pair_of(Fraction(len(unlike), many)))
            self.assertEqual(distance(menu, other, tree), distance(menu, tree, other))

    def test_pairs_as_values(self):
        for menu, places, tree, other in pairs(((0, 1), (0, 2), (1, 0)), 15):
            unlike = unlike_rows(menu, places, tree, other)
            self.assertIs(same(menu, tree, other), not unlike)
            self.assertEqual(least_unlike(menu, tree, other), told_entries(unlike[0]) if unlike else None)
            self.assertEqual(distance(menu, tree, other), pair_of(Fraction(len(unlike), len(list(fillings(menu, places))))))

    def test_ends(self):
        self.assertIs(same((), end(1), end(1)), True)
        self.assertIs(same((), end(1), end(2)), False)
        self.assertEqual(least_unlike((), end(1), end(2)), ())
        self.assertIsNone(least_unlike((2, 2), end(1), ask(0, 1, 1, 1)))
        self.assertEqual((distance((), end(1), end(1)), distance((), end(1), end(2))), ((0, 1), (1, 1)))
        self.assertEqual((parting((), end(1), end(1)), parting((), end(1), end(2))), (None, ()))

    def test_programs(self):
        for text, other, menu, wanted in (
                ("some s of 2. s[0]", "1:2", (), True), ("r[0]", "as 2 (count(r[0]))", (2,), True), ("r[0]", "r[1]", (2,), False),
                ("(r[0], 1)", "(r[0], 1 + 0 * count(s[0]))", (2, 3), True), ("(row x of 2. r[x + 1])[0]", "r[1]", (2,), True)):
            self.assertIs(same_programs(program(text, *menu), program(other, *menu)), wanted, text)

    def test_unlike_programs(self):
        for one, other in (
                (program("r[0]", 2), program("r[0]", 3)), (program("1", 2), program("1")), (program("1", 2), program("1:2", 2)),
                (program("1", 2, 3), program("1", 3, 2)), (program("1:2", 2), program("1:3", 2)), (program(BIG, 2), program("1:2", 2)),
                (program("(1, 1)"), program("(1, 1:9)")), (program(BIG, 2), program(BIG, 3)), (program("1"), program(f"({BIG}, 1)"))):
            self.assertEqual(told_by(same_programs, one, other), ("WrongKind",))
            self.assertEqual(told_by(same_programs, other, one), ("WrongKind",))
        self.assertEqual(what_of(same_programs, program(BIG), program("1")), "program")
        self.assertEqual(what_of(same_programs, program("1"), program(BIG)), "program")

    def test_deep_results(self):
        def deep(many, text):
            term = program(text, 2)[3]
            for _ in range(many):
                term = ("pair", ("digit", 1, 0), term)
            return ("fn", "r", ("rows", 2), term)
        self.assertIs(same_programs(deep(1500, "r[0]"), deep(1500, "as 2 (count(r[0]))")), True)
        self.assertIs(same_programs(deep(1500, "r[0]"), deep(1500, "r[1]")), False)
        self.assertEqual(told_by(same_programs, deep(1500, "r[0]"), deep(1501, "r[0]")), ("WrongKind",))

    def test_distances_of_three(self):
        for menu, places in MENUS:
            for seed in range(20):
                maker = Maker(seed)
                f, g, h = [maker.tree(menu, places, (0, 1), 4) for _ in range(3)]
                one, two, three = [Fraction(*distance(menu, *both)) for both in ((f, h), (f, g), (g, h))]
                self.assertLessEqual(one, two + three)

    def test_deep_and_great_trees(self):
        rng = random.Random(3)

        def grow(places, many):
            if many == 1:
                return end(rng.randrange(5))
            place = rng.choice(places)
            left = rng.randrange(max(1, many - 900), min(many, 901))
            rest = [other for other in places if other != place]
            return ("ask", place, (grow(rest, left), grow(rest, many - left)))
        near, far = [(i, 0) for i in range(200)], [(i, 0) for i in range(200, 400)]
        one, two = grow(near, 1000), grow(far, 1000)
        self.assertIs(same((2,), one, two), False)
        part = Fraction(*distance((2,), one, two))
        shares = [[sum(Fraction(1, 2 ** n) for n, v in depths(tree) if v == value) for value in range(5)] for tree in (one, two)]
        self.assertEqual(part, 1 - sum(a * b for a, b in zip(*shares)))
        above = led(two, tuple((value, value + 5) for value in range(5)))
        self.assertIs(is_below((2,), one, above), True)
        self.assertEqual(least_above((2,), above, one), ())
        chain, about = end(0), end(0)
        for i in range(120):
            chain, about = ask(119 - i, 0, 1, chain), ask(i, 0, 1, about)
        self.assertIs(same((2,), chain, about), True)
        self.assertIsNone(least_unlike((2,), chain, about))
        self.assertEqual(distance((2,), chain, end(1)), (1, 2 ** 120))
        self.assertEqual(least_unlike((2,), about, end(1)), tuple(((i, 0), 1) for i in range(120)))


def depths(tree, n=0):
    if tree[0] == "end":
        return [(n, tree[1])]
    return [pair for branch in tree[2] for pair in depths(branch, n + 1)]


class PartingTest(unittest.TestCase):
    def by_filling(self, menu, places, tree, other):
        indices = [i for i, _ in places]
        unlike = unlike_rows(menu, places, tree, other)
        for n in range(max(indices) + 2):
            inner = [place for place in places if place[0] < n]
            for digits in fillings(menu, inner):
                along = len(list(fillings(menu, [place for place in places if place[0] >= n])))
                if len([held for held in unlike if all(held[place] == digits[place] for place in inner)]) == along:
                    return tuple(tuple(digits.get((i, k), 0) for i in range(n)) for k in range(len(menu)))
        return None

    def test_by_all_fillings(self):
        for menu, places, tree, other in pairs(many=12):
            if max([i for i, _ in places_in(tree, other)] or [0]) < 200:
                places = [place for place in places if place[0] < 200]
                self.assertEqual(parting(menu, tree, other), self.by_filling(menu, places, tree, other))

    def test_examples(self):
        self.assertEqual(parting((2,), ways(P), ways(Q)), ((1, 0),))
        tree = ask(199, 1, 0, ask(3, 0, 0, 1), 2)
        zeros = (0,) * 199
        self.assertEqual(parting((2, 3), tree, end(0)), (zeros + (0,), zeros + (2,)))
        self.assertEqual(parting((2, 3), tree, end(2)), (zeros + (0,), zeros + (0,)))
        self.assertEqual(parting((2, 3), ask(2, 0, end(2), tree), end(2)), ((0, 0, 1) + (0,) * 197, (0,) * 200))
        # The length goes ahead of the order of rows.
        tree = ask(0, 0, ask(1, 0, 0, 1), 1)
        self.assertEqual(parting((2,), tree, end(0)), ((1,),))
        self.assertIsNone(parting((2,), tree, ask(1, 0, ask(0, 0, 0, 1), 1)))


class OrderTest(unittest.TestCase):
    def test_by_all_fillings(self):
        for menu, places, tree, other in pairs((0, 1, 2, 3)):
            above = [digits for digits in fillings(menu, places) if value_at(tree, digits) > value_at(other, digits)]
            self.assertIs(is_below(menu, tree, other), not above)
            self.assertEqual(least_above(menu, tree, other), told_entries(above[0]) if above else None)
            lesser = tree_of(menu, places, lambda digits: min(value_at(tree, digits), value_at(other, digits)))
            greater = tree_of(menu, places, lambda digits: max(value_at(tree, digits), value_at(other, digits)))
            self.assertEqual(met(menu, tree, other), lesser)
            self.assertEqual(joined(menu, tree, other), greater)
            self.assertIs(is_below(menu, lesser, tree) and is_below(menu, lesser, other) and is_below(menu, tree, greater), True)
            self.assertIs(same(menu, tree, other), is_below(menu, tree, other) and is_below(menu, other, tree))

    def test_what_is_below_both(self):
        for menu, places in MENUS:
            for seed in range(30):
                maker = Maker(seed)
                f, g, h = [maker.tree(menu, places, (0, 1, 2), 3) for _ in range(3)]
                self.assertIs(is_below(menu, h, met(menu, f, g)), is_below(menu, h, f) and is_below(menu, h, g))
                self.assertIs(is_below(menu, joined(menu, f, g), h), is_below(menu, f, h) and is_below(menu, g, h))

    def test_ends(self):
        self.assertEqual((least_above((), end(2), end(1)), least_above((), end(1), end(1))), ((), None))
        self.assertEqual((met((), end(2), end(1)), joined((), end(2), end(1))), (end(1), end(2)))

    def test_bounds(self):
        for many, more in ((998, 1), (1000, 0)):
            tree = great_least(many, more)
            for function, other in ((met, 10 ** 9), (joined, 0)):
                if nodes_of(tree) == 2000:
                    self.assertEqual(function((2, 3), tree, end(other)), tree)
                    self.assertEqual(function((2, 3), end(other), tree), tree)
                    self.assertEqual(function((2, 3), tree, tree), tree)
                else:
                    self.assertEqual(nodes_of(tree), 2001)
                    self.assertEqual(what_of(function, (2, 3), tree, end(other)), "tree")
        # One of both may be far smaller than what both make, and the other way round.
        self.assertEqual(met((2, 3), great_least(999, 0), end(0)), end(0))
        rows = [tree_of((2,), [(i, 0) for i in range(half, 12, 2)], lambda digits: sum(
            digit << at for at, digit in enumerate(digits.values()))) for half in range(2)]
        self.assertEqual([nodes_of(row) for row in rows], [127, 127])
        self.assertEqual(what_of(joined, (2,), *rows), "tree")


class BeginningsTest(unittest.TestCase):
    def settled(self, menu, places, tree, n):
        inner = [place for place in places if place[0] < n]
        outer = [place for place in places if place[0] >= n]
        many = 0
        for digits in fillings(menu, inner):
            many += len({value_at(tree, {**digits, **more}) for more in fillings(menu, outer)}) == 1
        return pair_of(Fraction(many, len(list(fillings(menu, inner)))))

    def nearest(self, menu, places, tree, n):
        outer = [place for place in places if place[0] >= n]

        def tell(digits):
            values = [value_at(tree, {**digits, **more}) for more in fillings(menu, outer)]
            return min(set(values), key=lambda value: (-values.count(value), value))
        return tree_of(menu, [place for place in places if place[0] < n], tell)

    def test_by_all_fillings(self):
        for menu, places in MENUS:
            places = [place for place in places if place[0] < 100]
            for seed in range(25):
                maker = Maker(seed)
                tree = other_order(maker.random, menu, maker.tree(menu, places, (0, 1, 2), 5), places)
                needed = needed_by_filling(menu, tree)
                modulus = needed[-1][0] + 1 if needed else 0
                share = (0, 1)
                for n in (0, 1, 2, 3, modulus - 1, modulus, modulus + 1, 1000):
                    if n < 0:
                        continue
                    share = settled_share(menu, tree, n)
                    self.assertEqual(share, self.settled(menu, places, tree, n))
                    self.assertIs(share == (1, 1), n >= modulus)
                    many = 1
                    for size in menu:
                        many *= size ** n
                    if many > 4096:
                        self.assertEqual(what_of(nearest, menu, tree, n), "beginnings")
                    else:
                        made = nearest(menu, tree, n)
                        self.assertEqual(made, self.nearest(menu, places, tree, n))
                        self.assertIs(made == least_by_filling(menu, tree), n >= modulus)

    def test_example(self):
        made = nearest((2,), ways(P), 1)
        self.assertEqual(made, ask(0, 0, 0, 1))
        self.assertEqual(distance((2,), ways(P), made), (1, 4))
        self.assertEqual([settled_share((2,), ways(P), n) for n in range(4)], [(0, 1), (1, 2), (1, 1), (1, 1)])

    def test_nothing_is_nearer(self):
        menu, places = (2, 2), [(0, 0), (0, 1), (1, 0), (2, 1)]
        for seed in range(20):
            tree = Maker(seed).tree(menu, places, (0, 1, 2), 4)
            best = min(Fraction(*distance(menu, tree, tree_of(menu, places[:2], lambda digits: values[digits[(0, 0)] * 2 + digits[(0, 1)]])))
                       for values in itertools.product((0, 1, 2), repeat=4))
            self.assertEqual(Fraction(*distance(menu, tree, nearest(menu, tree, 1))), best)

    def test_ties_and_pairs(self):
        self.assertEqual(nearest((2,), ask(0, 0, 7, 3), 0), end(3))
        self.assertEqual(nearest((3,), ask(0, 0, 7, 3, 7), 0), end(7))
        self.assertEqual(nearest((2,), ask(0, 0, end((2, 0)), end((1, 9))), 0), end((1, 9)))
        self.assertEqual(nearest((2,), ask(1, 0, ask(0, 0, 1, 2), ask(0, 0, 1, 3)), 1), ask(0, 0, 1, 2))

    def test_bounds(self):
        tree = ask(0, 0, 0, 1)
        self.assertEqual(nearest((2,), tree, 12), tree)
        self.assertEqual(what_of(nearest, (2,), tree, 13), "beginnings")
        self.assertEqual(nearest((8, 8), ask(1, 1, *range(8)), 2), ask(1, 1, *range(8)))
        self.assertEqual(nearest((8, 8, 8, 8), ask(0, 3, *range(8)), 1), ask(0, 3, *range(8)))
        self.assertEqual(what_of(nearest, (8, 8, 8, 9), ask(0, 2, *range(8)), 1), "beginnings")
        self.assertEqual(what_of(nearest, (2,), end(0), 1000), "beginnings")
        self.assertEqual(nearest((), end(4), 1000), end(4))
        self.assertEqual(settled_share((), end(4), 0), (1, 1))
        self.assertEqual(settled_share((2,), ask(TOP, 0, 0, 1), 1000), (0, 1))
        self.assertEqual(settled_share((2,), ask(TOP, 0, 1, 1), 0), (1, 1))

    def test_nodes(self):
        # All fillings of four entries of both rows take 2,073 nodes; a last ask less takes 3 of them, two and the ask above 8.
        sizes, places = (2, 3), [(i, k) for i in range(4) for k in range(2)]

        def tree_with(pairs, groups):
            def tell(digits):
                number = 0
                for (_, k), digit in digits.items():
                    number = number * sizes[k] + digit
                if number // 6 < pairs:
                    return 10000 + number // 6
                return 20000 + number // 3 if number // 3 < 2 * pairs + groups else number
            return tree_of(sizes, places, tell)
        for pairs, groups, many in ((0, 0, 2073), (2, 19, 2000), (0, 24, 2001), (0, 25, 1998)):
            tree = tree_with(pairs, groups)
            self.assertEqual(nodes_of(tree), many)
            if many <= 2000:
                self.assertEqual(nearest(sizes, tree, 4), tree)
                self.assertEqual(met(sizes, tree, tree), tree)
            else:
                self.assertEqual(what_of(nearest, sizes, tree, 4), "tree")
            # Fewer entries make fewer nodes; and beginnings come ahead of nodes.
            self.assertLess(nodes_of(nearest(sizes, tree, 3)), 2000)
            self.assertEqual(what_of(nearest, sizes, tree, 5), "beginnings")


if __name__ == "__main__":
    unittest.main()
