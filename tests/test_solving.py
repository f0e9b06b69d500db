"""DOC.md [62] to [67], and the heading allendless/solving.py."""

import itertools
import unittest

from allendless.solving import (
    beginning_number, best_solution, clash, common_beginning, forced, greatest_solution, least_solution, many_beginnings, nth_beginning,
    patterns)
from tests.filling import ask, end, fillings, least_by_filling, other_order, told_entries, value_at
from tests.making import Maker
from tests.wrong import told_by

TOP = 10 ** 18 - 1
MENUS = (((2,), [(0, 0), (1, 0), (2, 0), (5, 0), (TOP, 0)]), ((2, 3), [(0, 0), (0, 1), (1, 0), (1, 1), (2, 0)]),
         ((3, 2, 2), [(0, 0), (0, 1), (0, 2), (5, 1), (5, 2)]), ((2, 2, 3, 2), [(0, 3), (1, 0), (1, 2), (2, 1), (TOP - 1, 3)]))
T = ask(0, 0, ask(1, 0, 0, 1), 1)


def conditions(many=30, values=(0, 0, 1)):
    for menu, places in MENUS:
        for seed in range(many):
            maker = Maker(seed)
            tree = maker.tree(menu, places, values, 5)
            yield maker, menu, places, tree, other_order(maker.random, menu, tree, places)


def solutions(menu, places, tree):
    return [digits for digits in fillings(menu, places) if value_at(tree, digits) == 1]


def below_greatest(menu, digits):
    return tuple(sorted((place, digit) for place, digit in digits.items() if digit < menu[place[1]] - 1))


def paths_to_1(tree, above=()):
    if tree[0] == "end":
        return [above] if tree[1] == 1 else []
    return [path for digit, branch in enumerate(tree[2]) for path in paths_to_1(branch, above + ((tree[1], digit),))]


class SolutionsTest(unittest.TestCase):
    def test_example(self):
        self.assertEqual(patterns((2,), T), ((((0, 0), 0), ((1, 0), 1)), (((0, 0), 1),)))
        self.assertEqual((least_solution((2,), T), greatest_solution((2,), T)), ((((1, 0), 1),), ()))
        self.assertEqual(forced((2,), T), ())

    def test_by_all_fillings(self):
        for _, menu, places, tree, again in conditions():
            held = solutions(menu, places, tree)
            for one in (tree, again):
                self.assertEqual(patterns(menu, one), tuple(paths_to_1(least_by_filling(menu, tree))))
                self.assertEqual(least_solution(menu, one), told_entries(held[0]) if held else None)
                self.assertEqual(greatest_solution(menu, one), below_greatest(menu, held[-1]) if held else None)
                wanted = [(place, digit) for place in places for digit in range(menu[place[1]]) if all(one[place] == digit for one in held)]
                self.assertEqual(forced(menu, one), tuple(wanted) if held else None)

    def test_ends(self):
        for menu in ((2,), (3, 2), (9, 9, 9, 9)):
            for tree, found in ((end(1), ((),)), (end(0), ()), (ask(TOP, 0, *[1] * menu[0]), ((),)), (ask(3, 0, *[0] * menu[0]), ())):
                self.assertEqual(patterns(menu, tree), found)
                self.assertEqual(least_solution(menu, tree), () if found else None)
                self.assertEqual(greatest_solution(menu, tree), () if found else None)
                self.assertEqual(forced(menu, tree), () if found else None)

    def test_one_solution(self):
        tree = ask(TOP, 1, 0, ask(3, 0, 0, 0, 1), 0)
        menu = (3, 3)
        self.assertEqual(forced(menu, tree), (((3, 0), 2), ((TOP, 1), 1)))
        self.assertEqual(least_solution(menu, tree), (((3, 0), 2), ((TOP, 1), 1)))
        self.assertEqual(greatest_solution(menu, tree), (((TOP, 1), 1),))


class BeginningsTest(unittest.TestCase):
    def beginnings(self, m, places, tree, n):
        """All that go on, by all tuples."""
        held = solutions((m,), places, tree)
        return [digits for digits in itertools.product(range(m), repeat=n)
                if any(all(i >= n or digits[i] == digit for (i, _), digit in one.items()) for one in held)]

    def test_example(self):
        self.assertEqual((many_beginnings(2, T, 2), many_beginnings(2, T, 100)), (3, 3 * 2 ** 98))
        self.assertEqual([nth_beginning(2, T, 2, j) for j in range(3)], [(0, 1), (1, 0), (1, 1)])
        self.assertEqual((beginning_number(2, T, (0, 1)), beginning_number(2, T, (1, 1)), beginning_number(2, T, (0, 0))), (0, 2, 0))
        self.assertEqual(common_beginning(2, T), ())

    def test_by_all_tuples(self):
        for m, top in ((2, 5), (3, 4)):
            places = [(0, 0), (1, 0), (3, 0), (TOP, 0)]
            for seed in range(40):
                maker = Maker(seed)
                tree = other_order(maker.random, (m,), maker.tree((m,), places, (0, 0, 1), 4), places)
                for n in range(top):
                    held = self.beginnings(m, places, tree, n)
                    self.assertEqual(many_beginnings(m, tree, n), len(held))
                    self.assertEqual([nth_beginning(m, tree, n, j) for j in range(len(held))], held)
                    for j in (-1, len(held), len(held) + 1, 10 ** 40, True):
                        self.assertEqual(told_by(nth_beginning, m, tree, n, j), ("OutOfRange", j))
                    for digits in itertools.product(range(m), repeat=n):
                        self.assertEqual(beginning_number(m, tree, digits), len([other for other in held if other < digits]))

    def test_common_beginning(self):
        for seed in range(60):
            places = [(0, 0), (1, 0), (2, 0), (3, 0)]
            tree = Maker(seed).tree((2,), places, (0, 0, 0, 1), 4)
            held = [tuple(digits.values()) for digits in solutions((2,), places, tree)]
            common = 0
            while held and common < 4 and len({digits[:common + 1] for digits in held}) == 1:
                common += 1
            self.assertEqual(common_beginning(2, tree), held[0][:common] if held else None)
        self.assertEqual(common_beginning(2, ask(0, 0, 0, ask(1, 0, 1, 0))), (1, 0))
        self.assertEqual(common_beginning(2, ask(1, 0, 1, 0)), ())
        self.assertEqual(common_beginning(9, end(1)), ())
        self.assertIsNone(common_beginning(9, end(0)))

    def test_long_ones(self):
        # Entries 0, 50 and 199 are 1, or entry 7 is 0.
        tree = ask(199, 0, ask(7, 0, 1, 0), ask(50, 0, ask(7, 0, 1, 0), ask(0, 0, ask(7, 0, 1, 0), 1)))
        for n in (0, 1, 7, 8, 50, 51, 100, 199, 200):
            many = many_beginnings(2, tree, n)
            if n <= 7:
                self.assertEqual(many, 2 ** n)
            elif n <= 50:
                self.assertEqual(many, 2 ** (n - 1) + 2 ** (n - 2))
            elif n <= 199:
                self.assertEqual(many, 2 ** (n - 1) + 2 ** (n - 3))
            else:
                self.assertEqual(many, 2 ** 199 + 2 ** 196)
            for j in {0, many - 1, many // 2, many // 3}:
                digits = nth_beginning(2, tree, n, j)
                self.assertEqual(len(digits), n)
                self.assertEqual(beginning_number(2, tree, digits), j)
            for j in (-1, many, many + 1):
                self.assertEqual(told_by(nth_beginning, 2, tree, n, j), ("OutOfRange", j))
        self.assertEqual(many_beginnings(9, end(1), 200), 9 ** 200)
        self.assertEqual(nth_beginning(9, end(1), 200, 9 ** 200 - 1), (8,) * 200)
        self.assertEqual(beginning_number(9, end(1), (8,) * 200), 9 ** 200 - 1)

    def test_no_solution(self):
        for n in (0, 1, 200):
            self.assertEqual(many_beginnings(2, end(0), n), 0)
            self.assertEqual(beginning_number(2, end(0), (1,) * n), 0)
            for j in (-1, 0, 1):
                self.assertEqual(told_by(nth_beginning, 2, end(0), n, j), ("OutOfRange", j))
        self.assertEqual((many_beginnings(2, end(1), 0), nth_beginning(2, T, 0, 0), beginning_number(2, T, ())), (1, (), 0))
        self.assertEqual(told_by(nth_beginning, 2, T, 0, 1), ("OutOfRange", 1))

    def test_next_ones(self):
        for seed in range(20):
            tree = Maker(seed).tree((3,), [(0, 0), (1, 0), (2, 0)], (0, 1), 3)
            for n in (3, 4, 10):
                self.assertEqual(many_beginnings(3, tree, n + 1), 3 * many_beginnings(3, tree, n))


class SystemsTest(unittest.TestCase):
    def clash_by(self, menu, places, trees):
        def is_solved(numbers):
            return any(all(value_at(trees[number], digits) == 1 for number in numbers) for digits in fillings(menu, places))
        left = list(range(len(trees)))
        if is_solved(left):
            return None
        for number in reversed(range(len(trees))):
            others = [other for other in left if other != number]
            if not is_solved(others):
                left = others
        return tuple(left)

    def test_by_all_fillings(self):
        met = set()
        for menu, places in MENUS:
            for seed in range(40):
                maker = Maker(seed)
                trees = tuple(maker.tree(menu, places, (0, 0, 1, 1, 1), 3) for _ in range(maker.random.randrange(1, 9)))
                found = clash(menu, trees)
                self.assertEqual(found, self.clash_by(menu, places, trees))
                met.add(found and (len(found), len(found) < len(trees)))
        self.assertIn(None, met)
        self.assertIn((2, True), met)
        self.assertIn((3, True), met)

    def test_order_of_leaving_out(self):
        yes, no = ask(0, 0, 0, 1), ask(0, 0, 1, 0)
        self.assertEqual(clash((2,), (yes, no, end(0))), (0, 1))
        self.assertEqual(clash((2,), (end(0), yes, no)), (0,))
        self.assertEqual(clash((2,), (yes, yes, no, no)), (0, 2))
        self.assertEqual(clash((2,), (end(1), yes, end(1), no)), (1, 3))
        self.assertEqual(clash((2,), (end(0),)), (0,))
        self.assertIsNone(clash((2,), (yes,)))
        # Any two of the three can be solved.
        three = (ask(0, 0, ask(1, 0, 0, 1), ask(1, 0, 1, 0)), ask(1, 0, ask(2, 0, 0, 1), ask(2, 0, 1, 0)), ask(0, 0, ask(2, 0, 0, 1), ask(2, 0, 1, 0)))
        self.assertEqual(clash((2,), (end(1),) + three), (1, 2, 3))
        self.assertIsNone(clash((2,), three[:2]))

    def test_best(self):
        for maker, menu, places, condition, again in conditions(20):
            tree = maker.tree(menu, places, (0, 1, 2, 7), 5)
            held = solutions(menu, places, condition)
            wanted = None
            if held:
                best = max(value_at(tree, digits) for digits in held)
                wanted = (best, told_entries(next(digits for digits in held if value_at(tree, digits) == best)))
            for one in (condition, again):
                self.assertEqual(best_solution(menu, tree, one), wanted)
        self.assertEqual(best_solution((2,), end(0), end(1)), (0, ()))
        self.assertIsNone(best_solution((2,), end(0), end(0)))
        self.assertEqual(best_solution((2,), ask(TOP, 0, 3, 4), end(1)), (4, (((TOP, 0), 1),)))
        self.assertEqual(best_solution((2,), ask(TOP, 0, 0, 0), T), (0, (((1, 0), 1),)))


if __name__ == "__main__":
    unittest.main()
