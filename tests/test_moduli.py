"""DOC.md [49] to [51], [54], of [47] the modulus, and of the heading allendless/moduli.py what is no strategy."""

import itertools
import unittest

from allendless.moduli import enough_at, hangs_on, hardest, is_enough, modulus, needed_places, sensitive_places
from allendless.plain import run_told
from allendless.told import told_entry
from allendless.trees import ends_of, put_in, value_on
from allendless.ways import is_small, ways
from tests.filling import ask, end, fillings, needed_by_filling, other_order, places_in, tree_of, value_at
from tests.making import Maker
from tests.test_leasttrees import MENUS
from tests.wrong import what_of

TOP = 10 ** 18 - 1
MAJORITY = tree_of((2,), [(0, 0), (1, 0), (2, 0)], lambda digits: int(sum(digits.values()) > 1))
NOUGHTS = (((), (0,)),)


def told_in_other_ways(rows):
    """Told rows of the same entries."""
    return tuple((beginning + around[:1], around[1:] + around[:1]) for beginning, around in rows), tuple(
        (beginning + around, around * 2) for beginning, around in rows)


def lots(places):
    """All lots of places, the fewest first, those of one number in their order."""
    for many in range(len(places) + 1):
        yield from itertools.combinations(places, many)


def enough_by_filling(sizes, tree, places, here, lot):
    """Whether a lot is enough at the rows with the digits `here`."""
    return all(value_at(tree, digits) == value_at(tree, here) for digits in fillings(sizes, places)
               if all(digits[place] == here[place] for place in lot if place in here))


def trees(many=15, values=(0, 1, 1, (1, 2))):
    for menu, places in MENUS:
        for seed in range(many):
            maker = Maker(seed)
            yield maker, menu, places, other_order(maker.random, menu, maker.tree(menu, places, values, 4), places)


class NeededTest(unittest.TestCase):
    def test_by_all_fillings(self):
        for _, menu, _, tree in trees(40):
            needed = needed_by_filling(menu, tree)
            self.assertEqual(needed_places(menu, tree), needed)
            self.assertEqual(modulus(menu, tree), needed[-1][0] + 1 if needed else 0)

    def test_ends(self):
        self.assertEqual((needed_places((), end(1)), modulus((), end(1))), ((), 0))
        self.assertEqual((needed_places((2,), ask(TOP, 0, 1, 1)), modulus((2,), ask(TOP, 0, 1, 1))), ((), 0))
        self.assertEqual((needed_places((2,), ask(TOP, 0, 1, 2)), modulus((2,), ask(TOP, 0, 1, 2))), (((TOP, 0),), TOP + 1))

    def test_hanging(self):
        for _, menu, places, tree in trees(40):
            needed = needed_by_filling(menu, tree)
            for place in places + [(9, 0), (3, 0)]:
                found = hangs_on(menu, tree, place)
                if place not in needed:
                    self.assertIsNone(found)
                    continue
                known, d, e, value, worth = found
                self.assertEqual(known, tuple(sorted(known)))
                self.assertNotIn(place, dict(known))
                self.assertNotEqual(value, worth)
                for digit, wanted in ((d, value), (e, worth)):
                    held = {**dict(known), place: digit}
                    self.assertTrue(0 <= digit < menu[place[1]])
                    for digits in fillings(menu, places):
                        self.assertEqual(value_at(tree, {**digits, **held}), wanted)

    def test_where_digits_0_and_1_are_alike(self):
        known, d, e, value, worth = hangs_on((2, 3), ask(1, 0, ask(0, 1, 5, 5, 6), 5), (0, 1))
        self.assertEqual(known, (((1, 0), 0),))
        self.assertEqual({d: value, e: worth}[2], 6)

    def test_with_120_asks(self):
        tree = end(1)
        for i in range(120):
            tree = ask(i, 0, 0, tree)
        self.assertEqual((len(needed_places((2,), tree)), modulus((2,), tree)), (120, 120))
        known, d, e, value, worth = hangs_on((2,), tree, (7, 0))
        self.assertEqual(known, tuple(((i, 0), 1) for i in range(120) if i != 7))
        self.assertEqual(((d, e), (value, worth)), ((0, 1), (0, 1)))
        self.assertEqual(sensitive_places((2,), tree, (((), (1,)),)), tuple((i, 0) for i in range(120)))
        self.assertEqual(sensitive_places((2,), tree, (((1,) * 40 + (0,), (1,)),)), ((40, 0),))
        self.assertEqual(sensitive_places((2,), tree, NOUGHTS), ())
        self.assertIs(is_enough((2,), tree, NOUGHTS, ((100, 0),)), True)
        self.assertIs(is_enough((2,), tree, (((), (1,)),), tuple((i, 0) for i in range(119))), False)


class EnoughTest(unittest.TestCase):
    def test_example(self):
        for rows in (NOUGHTS, *told_in_other_ways(NOUGHTS)):
            self.assertEqual(enough_at((2,), MAJORITY, rows), ((0, 0), (1, 0)))
            self.assertEqual(sensitive_places((2,), MAJORITY, rows), ())
        self.assertEqual((hardest((2,), MAJORITY, 1), hardest((2,), MAJORITY, 0), hardest((2,), MAJORITY, 2)), (2, 2, 0))
        self.assertEqual(sensitive_places((2,), MAJORITY, (((1,), (0,)),)), ((1, 0), (2, 0)))

    def test_by_all_lots(self):
        for maker, menu, places, tree in trees(12):
            for _ in range(4):
                rows = tuple(maker.told(size) for size in menu)
                here = {(i, k): told_entry(rows[k], i) for i, k in places}
                fewest = None
                for lot in lots(places):
                    wanted = enough_by_filling(menu, tree, places, here, lot)
                    for told in (rows, *told_in_other_ways(rows)):
                        self.assertIs(is_enough(menu, tree, told, lot), wanted)
                    fewest = lot if wanted and fewest is None else fewest
                for told in (rows, *told_in_other_ways(rows)):
                    self.assertEqual(enough_at(menu, tree, told), fewest)
                sensitive = tuple(place for place in places if any(
                    value_at(tree, {**here, place: digit}) != value_at(tree, here) for digit in range(menu[place[1]])))
                self.assertEqual(sensitive_places(menu, tree, rows), sensitive)
                self.assertTrue(set(sensitive) <= set(fewest) <= set(needed_places(menu, tree)))

    def test_hardest(self):
        for _, menu, places, tree in trees(6):
            sizes = {}
            for here in fillings(menu, places):
                fewest = next(lot for lot in lots(places) if enough_by_filling(menu, tree, places, here, lot))
                value = value_at(tree, here)
                sizes[value] = max(sizes.get(value, 0), len(fewest))
            for value in (0, 1, (1, 2), 7, True, (1, 3), "0"):
                self.assertEqual(hardest(menu, tree, value), sizes.get(value, 0) if value is not True else 0)

    def test_common_places(self):
        # [51]: places that are enough at rows of unlike values have a place in common at which the rows are unlike.
        for maker, menu, _, tree in trees(10):
            one, other = [tuple(maker.told(size) for size in menu) for _ in range(2)]
            if value_on(tree, one) != value_on(tree, other):
                common = set(enough_at(menu, tree, one)) & set(enough_at(menu, tree, other))
                self.assertTrue(any(told_entry(one[k], i) != told_entry(other[k], i) for i, k in common))

    def test_far_places(self):
        tree = ask(TOP, 1, ask(TOP, 0, 1, 2), 1, 2)
        rows = (((), (0, 1)), ((), (0,)))
        self.assertEqual(enough_at((2, 3), tree, rows), ((TOP, 0), (TOP, 1)))
        self.assertIs(is_enough((2, 3), tree, rows, ((TOP, 0),)), False)
        self.assertIs(is_enough((2, 3), tree, rows, ((0, 0), (5, 1), (TOP, 0), (TOP, 1))), True)
        self.assertIs(is_enough((), end(3), (), ()), True)
        self.assertEqual((enough_at((), end(3), ()), sensitive_places((), end(3), ()), hardest((), end(3), 3)), ((), (), 0))

    def test_bounds_of_enough(self):
        def chain(many, size):
            tree = end(1)
            for i in range(many - 1, -1, -1):
                tree = ask(i, 0, *[0] * (size - 1), tree)
            return tree
        for size in (2, 9):
            rows = (((), (size - 1,)),)
            self.assertEqual(enough_at((size,), chain(12, size), rows), tuple((i, 0) for i in range(12)))
            self.assertEqual(enough_at((size,), chain(12, size), NOUGHTS), ((0, 0),))
            self.assertEqual(what_of(enough_at, (size,), chain(13, size), rows), "places")
            self.assertEqual(what_of(enough_at, (size,), chain(13, size), NOUGHTS), "places")
            # Places that are asked without need do not count.
            spare = ask(40, 0, *[chain(12, size)] * size)
            self.assertEqual(enough_at((size,), spare, NOUGHTS), ((0, 0),))

    def test_bounds_of_hardest(self):
        def sum_of(sizes, places, least):
            return tree_of(sizes, places, lambda digits: int(sum(digits.values()) >= least))
        tree = sum_of((2,), [(i, 0) for i in range(12)], 12)
        self.assertEqual((hardest((2,), tree, 1), hardest((2,), tree, 0)), (12, 1))
        tree = sum_of((8,), [(i, 0) for i in range(4)], 1)
        self.assertEqual((hardest((8,), tree, 1), hardest((8,), tree, 0)), (1, 4))
        half = sum_of((2,), [(i, 0) for i in range(12)], 6)
        self.assertEqual((hardest((2,), half, 1), hardest((2,), half, 0)), (6, 7))
        self.assertEqual(hardest((2,), ask(99, 0, half, half), 0), 7)
        self.assertEqual(what_of(hardest, (2,), sum_of((2,), [(i, 0) for i in range(13)], 13), 1), "places")
        self.assertEqual(what_of(hardest, (2,), sum_of((2,), [(i, 0) for i in range(13)], 13), 5), "places")
        sizes, places = (8, 8, 8, 9), [(0, k) for k in range(4)]
        self.assertEqual(what_of(hardest, sizes, sum_of(sizes, places, 29), 1), "places")
        self.assertEqual(hardest(sizes, sum_of(sizes, places[:3], 21), 1), 3)


class ReadPlacesTest(unittest.TestCase):
    def test_read_places_are_enough(self):
        for seed in range(80):
            maker = Maker(seed)
            menu = (2, 3)
            term = maker.program(menu, 4)
            if not is_small(term):
                continue
            tree = ways(term)
            rows = tuple(maker.told(size) for size in menu)
            read = run_told(term, rows)[1]
            self.assertIs(is_enough(menu, tree, rows, tuple(sorted(read))), True)

    def test_putting_in(self):
        for seed in range(30):
            maker = Maker(seed)
            tree = maker.tree((2,), [(i, 0) for i in range(3)], (0, 1), 3)
            sources = tuple(((i, 0), maker.tree((3,), [(j, 0) for j in range(3)], (0, 1), 2)) for i in range(3))
            below = set()
            for place, source in sources:
                if place in needed_places((2,), tree):
                    below.update(needed_places((3,), source))
            self.assertTrue(set(needed_places((3,), put_in(tree, sources))) <= below)
            self.assertTrue(set(needed_places((2,), tree)) <= set(places_in(tree)))
            self.assertTrue(ends_of(tree))


if __name__ == "__main__":
    unittest.main()
