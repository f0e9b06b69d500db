"""DOC.md [29], [30], [34], [35], of [32] a tree given a place and a digit, and the heading allendless/trees.py."""

import itertools
import unittest
from fractions import Fraction

from allendless.data import data_text
from allendless.told import go_together, is_known, known_at
from allendless.trees import (
    ends_of, fixed_at, grafted, is_tree, led, node_count, paired, put_in, turned, value_on, way_on)
from tests.making import Maker
from tests.wrong import what_of

TOP = 10 ** 18 - 1
MENU = (2, 3)
PLACES = tuple((i, k) for i in range(3) for k in range(2))


def end(value):
    return ("end", value)


def ask(i, k, *branches):
    return ("ask", (i, k), tuple(end(branch) if isinstance(branch, int) else branch for branch in branches))


def chain(many, k=0, size=2, first=0, last=1):
    """Asks below one another, so many, at the last branch of each; all other ends are 0."""
    tree = end(last)
    for i in range(first + many - 1, first - 1, -1):
        tree = ask(i, k, *[0] * (size - 1), tree)
    return tree


def rows_for(maker):
    return (maker.told(2), maker.told(3))


class IsTreeTest(unittest.TestCase):
    def test_trees(self):
        for tree in (end(0), end(10 ** 999), end((0, (1, 2))), ask(0, 0, 1, 2), ask(TOP, 1, 1, 2, 3), ask(1, 0, ask(0, 0, 1, 1), ask(0, 0, 2, 2)),
                     ask(0, 0, ask(0, 1, 1, 1, end((1, 1))), 5), chain(120)):
            self.assertIs(is_tree(MENU, tree), True)
        self.assertIs(is_tree((), end(1)), True)

    def test_no_trees(self):
        for value in (
                (), None, 1, True, "end", ("end",), ("end", -1), ("end", True), ("end", None), ("end", "1"), ("end", ()), ("end", (1,)),
                ("end", (1, 2, 3)), ("end", (1, (1, -1))), ("end", (1, False)), ("end", 1, 1), ("ask", (0, 0)), ("ask", (0, 0), ()),
                ask(0, 0, 1), ask(0, 0, 1, 1, 1), ask(0, 1, 1, 1), ask(0, 2, 1, 1), ask(-1, 0, 1, 1), ask(0, -1, 1, 1, 1), ask(TOP + 1, 0, 1, 1),
                ("ask", (True, 0), (end(1), end(1))), ("ask", (0, False), (end(1), end(1))), ("ask", (0,), (end(1), end(1))),
                ("ask", 0, (end(1), end(1))), ("ask", (0, 0, 0), (end(1), end(1))), ("ask", (0, 0), [end(1), end(1)]),
                ("ask", (0, 0), (end(1), 1)), ("ask", (0, 0), (end(1), end(1)), 0), ask(0, 0, ask(0, 0, 1, 1), 1), ("ask", ("0", 0), (end(1), end(1))),
                ask(0, 0, 1, ask(1, 0, ask(0, 0, 1, 1), 1)), ask(0, 0, 1, ("end", -1)), ("tell", 1), (("end",), 1), ("ask", (0, 0), None), ("", 1),
                ask(0, 0, 1, None), ask(0, 0, "ab", 1)):
            self.assertIs(is_tree(MENU, value), False, value)
        self.assertIs(is_tree((), ask(0, 0, 1, 1)), False)
        self.assertIs(is_tree((2, 2), ask(0, 1, 1, 1, 1)), False)

    def test_a_place_may_stand_on_two_ways(self):
        self.assertIs(is_tree((2,), ask(0, 0, ask(1, 0, 0, 1), ask(1, 0, 0, 1))), True)

    def test_nodes(self):
        # 1 + 2 a + 3 b nodes, with a asks of row 0 and b of row 1.
        self.assertIs(is_tree(MENU, bushy(998, 1)), True)
        self.assertEqual(node_count(bushy(998, 1)), 2000)
        self.assertIs(is_tree(MENU, bushy(1000, 0)), False)
        self.assertEqual(node_count(bushy(1000, 0)), 2001)
        great = end(1)
        for i in range(60):
            great = ask(i, 0, great, great)
        self.assertIs(is_tree((2,), great), False)

    def test_deep_values(self):
        value = end(1)
        data = 0
        for i in range(190):
            value = ask(i, 0, value, 0)
            data = (data, 1)
        self.assertIs(is_tree((2,), value), True)
        self.assertIs(is_tree((2,), ask(500, 0, value, ("end", (data, data)))), True)
        self.assertIs(is_tree((2,), ask(500, 0, value, ("end", (data, (data, True))))), False)
        self.assertIs(is_tree((2,), ask(5, 0, value, 0)), False)


def bushy(many, more):
    """A tree with so many asks of row 0, over 2, and of row 1, over 3, that is not deep."""
    if many + more == 0:
        return end(many)
    if more:
        return ask(0, 1, bushy(many, more - 1), 0, 1)

    def grow(many, i):
        if many == 0:
            return end(i % 3)
        left = (many - 1) // 2
        return ask(i, 0, grow(left, i + 1), grow(many - 1 - left, i + 1))
    return grow(many, 0)


class EndsTest(unittest.TestCase):
    def test_ends(self):
        tree = ask(1, 0, ask(0, 1, 4, 5, 6), ask(0, 0, 7, end((8, 9))))
        self.assertEqual(node_count(tree), 8)
        self.assertEqual(ends_of(tree), (
            ((((0, 1), 0), ((1, 0), 0)), 4), ((((0, 1), 1), ((1, 0), 0)), 5), ((((0, 1), 2), ((1, 0), 0)), 6),
            ((((0, 0), 0), ((1, 0), 1)), 7), ((((0, 0), 1), ((1, 0), 1)), (8, 9))))
        self.assertEqual((node_count(end(3)), ends_of(end(3))), (1, (((), 3),)))

    def test_ways_and_values(self):
        tree = ask(1, 0, ask(0, 1, 4, 5, 6), ask(0, 0, 7, 8))
        rows = (((0, 1), (0,)), ((), (2,)))
        self.assertEqual((value_on(tree, rows), way_on(tree, rows)), (7, (((1, 0), 1), ((0, 0), 0))))
        rows = (((), (0,)), ((), (1,)))
        self.assertEqual((value_on(tree, rows), way_on(tree, rows)), (5, (((1, 0), 0), ((0, 1), 1))))
        self.assertEqual((value_on(end(3), ()), way_on(end(3), ())), (3, ()))
        self.assertEqual(value_on(ask(TOP, 0, 1, 2), (((0,), (0, 1)),)), 1)

    def test_all_rows_go_along_with_one_end(self):
        for seed in range(100):
            maker = Maker(seed)
            tree = maker.tree(MENU, PLACES, (0, 1, (1, 2)), 5)
            rows = rows_for(maker)
            ends = ends_of(tree)
            share = Fraction(0)
            for known, _ in ends:
                self.assertIs(is_known(MENU, known), True)
                part = Fraction(1)
                for (_, k), _ in known:
                    part /= MENU[k]
                share += part
            self.assertEqual(share, 1)
            told = known_at(rows, PLACES)
            along = [(known, value) for known, value in ends if go_together(known, told)]
            self.assertEqual(along, [(tuple(sorted(way_on(tree, rows))), value_on(tree, rows))])


class WorkTest(unittest.TestCase):
    def test_given(self):
        tree = ask(1, 0, ask(0, 0, 4, ask(0, 1, 5, 6, 7)), ask(0, 1, 1, ask(0, 0, 2, 3), 8))
        self.assertEqual(fixed_at(tree, (0, 0), 1), ask(1, 0, ask(0, 1, 5, 6, 7), ask(0, 1, 1, 3, 8)))
        self.assertEqual(fixed_at(tree, (1, 0), 0), ask(0, 0, 4, ask(0, 1, 5, 6, 7)))
        self.assertEqual(fixed_at(tree, (0, 1), 2), ask(1, 0, ask(0, 0, 4, 7), 8))
        self.assertEqual(fixed_at(tree, (5, 0), 1), tree)
        self.assertEqual(fixed_at(end(1), (0, 0), 1), end(1))

    def test_paired(self):
        tree, other = ask(0, 0, 1, 2), ask(1, 0, ask(0, 0, 3, 4), ask(0, 1, 5, 6, 7))
        self.assertEqual(paired(MENU, tree, other), ask(
            0, 0, ask(1, 0, end((1, 3)), ask(0, 1, end((1, 5)), end((1, 6)), end((1, 7)))),
            ask(1, 0, end((2, 4)), ask(0, 1, end((2, 5)), end((2, 6)), end((2, 7))))))
        self.assertEqual(paired((2,), tree, tree), ask(0, 0, end((1, 1)), end((2, 2))))
        self.assertEqual(paired((), end(1), end((2, 3))), end((1, (2, 3))))
        self.assertEqual(paired((2,), end((0, 0)), tree), ask(0, 0, end(((0, 0), 1)), end(((0, 0), 2))))

    def test_led(self):
        tree = ask(0, 0, 1, ask(1, 0, end((1, 2)), 1))
        table = ((7, "not looked at"), (1, (0, 0)), (True, 5), ((1, 2), 9), ((1, (2, 2)), None))
        self.assertEqual(led(tree, table), ask(0, 0, end((0, 0)), ask(1, 0, 9, end((0, 0)))))
        tree = ask(0, 0, end((1, (2, 3))), ask(1, 0, end(((1, 2), 3)), end((12, 3))))
        table = (((1, (2, 3)), 4), (((1, 2), 3), 5), ((12, 3), 6), ((1, 23), 7))
        self.assertEqual(led(tree, table), ask(0, 0, 4, ask(1, 0, 5, 6)))
        # Branches that are equal stay as they are.
        self.assertEqual(led(ask(0, 0, 1, 2), ((1, 3), (2, 3))), ask(0, 0, 3, 3))

    def test_grafted(self):
        tree = ask(0, 0, 1, ask(1, 0, 2, 1))
        table = ((1, ask(0, 0, ask(1, 0, 5, 6), ask(0, 1, 7, 8, 9))), (2, end((1, 1))), (3, "not looked at"))
        self.assertEqual(grafted(MENU, tree, table), ask(0, 0, ask(1, 0, 5, 6), ask(1, 0, end((1, 1)), ask(0, 1, 7, 8, 9))))
        self.assertEqual(grafted((2,), ask(0, 0, 1, 2), ((1, ask(0, 0, 1, 2)), (2, ask(0, 0, 2, 1)))), ask(0, 0, 1, 1))
        self.assertEqual(grafted((2,), end(1), ((1, ask(0, 0, 1, 1)),)), ask(0, 0, 1, 1))

    def test_turned(self):
        tree = ask(1, 0, ask(0, 1, 4, 5, 6), 1)
        self.assertEqual(turned(tree, (3, 0)), ask(1, 3, ask(0, 0, 4, 5, 6), 1))
        self.assertEqual(turned(tree, (0, 1)), tree)
        self.assertEqual(turned(end(1), ()), end(1))

    def test_put_in(self):
        tree = ask(0, 0, 7, ask(1, 0, 8, 9))
        sources = (((0, 0), ask(3, 0, 0, 1)), ((1, 0), ask(3, 0, 1, 0)))
        self.assertEqual(put_in(tree, sources), ask(3, 0, 7, 8))
        sources = (((0, 0), ask(3, 0, ask(0, 1, 0, 1, 0), 1)), ((1, 0), ask(0, 1, 1, 0, 1)), ((2, 0), "not looked at"))
        self.assertEqual(put_in(tree, sources), ask(3, 0, ask(0, 1, 7, 8, 7), ask(0, 1, 9, 8, 9)))
        self.assertEqual(put_in(end(3), ()), end(3))
        self.assertEqual(put_in(tree, (((0, 0), end(1)), ((1, 0), end(0)))), end(8))
        self.assertEqual(put_in(ask(0, 0, 7, ask(1, 0, 8, 9)), (((0, 0), ask(1, 0, 1, 1)), ((1, 0), ask(0, 0, 0, 1)))),
                         ask(1, 0, ask(0, 0, 8, 9), ask(0, 0, 8, 9)))

    def test_values_of_what_is_made(self):
        for seed in range(150):
            maker = Maker(seed)
            tree = maker.tree(MENU, PLACES, (0, 1, (1, 2)), 4)
            other = maker.tree(MENU, PLACES, (0, 1, 2), 4)
            rows = rows_for(maker)
            value, worth = value_on(tree, rows), value_on(other, rows)
            self.check(paired(MENU, tree, other), rows, (value, worth))
            table = ((0, 5), (1, (7, 7)), ((1, 2), 0))
            self.check(led(tree, table), rows, dict(table)[value])
            trees = ((0, other), (1, tree), ((1, 2), end(3)))
            self.check(grafted(MENU, tree, trees), rows, value_on(dict(trees)[value], rows))
            self.assertIs(is_tree((3, 2, 2), turned(tree, (2, 0))), True)
            self.assertEqual(value_on(turned(tree, (2, 0)), (rows[1], None, rows[0])), value)
            place = maker.random.choice(PLACES)
            for d in range(MENU[place[1]]):
                given = fixed_at(tree, place, d)
                self.assertIs(is_tree(MENU, given), True)
                self.assertEqual(value_on(given, rows), value_on(tree, changed(rows, place, d)))
            sources = tuple((at, maker.tree((3,), [(i, 0) for i in range(4)], range(MENU[at[1]]), 3)) for at in sorted(PLACES))
            made = put_in(tree, sources)
            self.assertIs(is_tree((3,), made), True)
            held = (maker.told(3),)
            digits = {at: value_on(source, held) for at, source in sources}
            put = tuple((tuple(digits[(i, k)] for i in range(3)), (0,)) for k in range(2))
            self.assertEqual(value_on(made, held), value_on(tree, put))

    def check(self, tree, rows, value):
        self.assertIs(is_tree(MENU, tree), True)
        self.assertEqual(value_on(tree, rows), value)

    def test_putting_in_twice(self):
        for seed in range(60):
            maker = Maker(seed)
            tree = maker.tree((2,), [(i, 0) for i in range(3)], (0, 1, 2), 3)
            first = tuple(((i, 0), maker.tree((3,), [(j, 0) for j in range(3)], (0, 1), 2)) for i in range(3))
            second = tuple(((j, 0), maker.tree((2,), [(n, 0) for n in range(3)], (0, 1, 2), 2)) for j in range(3))
            twice = put_in(put_in(tree, first), second)
            once = put_in(tree, tuple((place, put_in(source, second)) for place, source in first))
            for digits in itertools.product((0, 1), repeat=3):
                rows = ((digits, (0,)),)
                self.assertEqual(value_on(twice, rows), value_on(once, rows))


def changed(rows, place, d):
    i, k = place
    beginning, around = rows[k]
    entries = [(beginning + around * (i + 1))[at] for at in range(len(beginning) + len(around) * (i + 1))]
    entries[i] = d
    return tuple((tuple(entries), around) if at == k else row for at, row in enumerate(rows))


class BoundsTest(unittest.TestCase):
    def test_paired(self):
        # a + (a + 1) n nodes, with a asks of the first tree and n nodes of the other one.
        other = ask(900, 1, chain(12, first=500), 0, 0)
        self.assertEqual(node_count(other), 28)
        made = paired(MENU, chain(68), other)
        self.assertEqual(node_count(made), 2000)
        self.assertIs(is_tree(MENU, made), True)
        self.assertEqual(what_of(paired, (2,), chain(76), chain(12, first=500)), "tree")
        self.assertEqual(2001, 76 + 77 * node_count(chain(12, first=500)))
        self.assertEqual(what_of(paired, (2,), chain(120), bushy(900, 0)), "tree")

    def test_grafted(self):
        other = ask(900, 1, chain(12, first=500), 0, 0)
        self.assertEqual(node_count(grafted(MENU, chain(68), ((0, other), (1, other)))), 2000)
        tree = chain(12, first=500)
        self.assertEqual(what_of(grafted, (2,), chain(76), ((0, tree), (1, tree))), "tree")
        self.assertEqual(what_of(grafted, (2,), bushy(999, 0), ((0, end(1)), (1, ask(5000, 0, 0, 0)), (2, end(1)))), "tree")

    def test_put_in(self):
        deep = deep_chain(998)
        self.assertEqual(node_count(deep), 1997)
        sources = tuple(((i, 0), ask(i, 0, 0, 1)) for i in range(998))
        self.assertEqual(data_text(put_in(deep, sources)), data_text(deep))
        three_more = (((0, 0), ask(0, 0, ask(0, 1, 0, 0, 0), 1)),) + sources[1:]
        made = put_in(deep, three_more)
        self.assertEqual(node_count(made), 2000)
        self.assertIs(is_tree(MENU, made), True)
        four_more = (((0, 0), ask(0, 0, ask(1000, 0, ask(1001, 0, 0, 0), 0), 1)),) + sources[1:]
        self.assertEqual(what_of(put_in, deep, four_more), "tree")
        # Sources that ask nothing new make no nodes, however often they are gone through.
        same = tuple(((i, 0), ask(0, 0, 0, 1)) for i in range(998))
        self.assertEqual(put_in(deep, same), ask(0, 0, 0, 1))

    def test_no_other_one_refuses(self):
        great = bushy(1500, 0)
        self.assertEqual(node_count(led(great, ((0, 1), (1, 1), (2, 1)))), 3001)
        self.assertEqual(node_count(turned(great, (2,))), 3001)
        self.assertEqual(node_count(fixed_at(great, (5000, 0), 1)), 3001)


def deep_chain(many):
    """A chain with so many asks, as functions of the package return it."""
    tree = chain(min(many, 100))
    for first in range(100, many, 100):
        tree = grafted((2,), tree, ((0, end(0)), (1, chain(min(100, many - first), first=first))))
    return tree


class DeepTest(unittest.TestCase):
    """Trees that were returned may be deeper than any that is handed in."""

    def test_deep_trees(self):
        tree = deep_chain(900)
        self.assertEqual(node_count(tree), 1801)
        self.assertIs(is_tree((2,), tree), True)
        self.assertIs(is_tree((3,), tree), False)
        ones = (((), (1,)),)
        self.assertEqual((value_on(tree, ones), len(way_on(tree, ones))), (1, 900))
        self.assertEqual(value_on(tree, (((1,) * 850, (0,)),)), 0)
        self.assertEqual(len(ends_of(tree)), 901)
        self.assertEqual(ends_of(tree)[-1], (tuple(((i, 0), 1) for i in range(900)), 1))
        self.assertEqual(node_count(fixed_at(tree, (899, 0), 1)), 1799)
        self.assertEqual(node_count(fixed_at(tree, (0, 0), 0)), 1)
        self.assertEqual(value_on(led(tree, ((0, 4), (1, 5))), ones), 5)
        self.assertEqual(data_text(turned(tree, (0,))), data_text(tree))
        self.assertEqual(value_on(turned(tree, (3,)), (None, None, None) + ones), 1)
        self.assertEqual(value_on(paired((2,), tree, tree), ones), (1, 1))
        self.assertEqual(node_count(paired((2,), tree, tree)), 1801)
        same = put_in(tree, tuple(((i, 0), ask(i, 0, 0, 1)) for i in range(900)))
        self.assertEqual(data_text(same), data_text(tree))
        self.assertIs(is_tree((2,), ask(5000, 0, tree, ask(1, 0, 1, 0))), True)
        self.assertIs(is_tree((2,), ask(899, 0, tree, 0)), False)

    def test_deep_values(self):
        tree = end(0)
        for _ in range(3000):
            tree = paired((2,), tree, end(1))
        self.assertIs(is_tree((), tree), True)
        value = tree[1]
        self.assertEqual(led(tree, ((value, 3),)), end(3))
        self.assertEqual(grafted((2,), tree, ((0, end(9)), (value, ask(0, 0, 1, 2)))), ask(0, 0, 1, 2))
        self.assertEqual(value_on(paired((2,), ask(0, 0, 1, 2), tree), (((), (1,)),))[0], 2)


if __name__ == "__main__":
    unittest.main()
