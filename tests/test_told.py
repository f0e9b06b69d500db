"""DOC.md [3], [18], of [29] what goes together, and the heading allendless/told.py."""

import itertools
import unittest

from allendless.told import (
    go_together, is_known, is_told, known_at, least_told, same_told, together, told_entry)
from tests.making import Maker

TOP = 10 ** 18 - 1


class ToldTest(unittest.TestCase):
    def test_told_rows(self):
        for m, value in ((2, ((), (0,))), (2, ((1, 0), (1, 1))), (9, ((8,), (0, 8))), (3, ((0,) * 500, (2,) * 500))):
            self.assertIs(is_told(m, value), True)

    def test_no_told_rows(self):
        for value in (((), ()), ((0,), ()), ((2,), (0,)), ((), (2,)), ((-1,), (0,)), ((True,), (0,)), ((0,), (False,)), ((0,),), (), None,
                      1, "01", ((0,), (0,), (0,)), (0, (0,)), ((0,), 0), ([0], (0,)), ((0,), [0]), ("", (0,)), ("0", "0"), (("0",), (0,)),
                      ((None,), (0,)), (((0,),), (0,)), True, ((), None)):
            self.assertIs(is_told(2, value), False, value)

    def test_entries(self):
        row = ((1, 2), (0, 1, 1))
        self.assertEqual([told_entry(row, i) for i in range(10)], [1, 2, 0, 1, 1, 0, 1, 1, 0, 1])
        self.assertEqual(told_entry(row, TOP), row[1][(TOP - 2) % 3])
        self.assertEqual(told_entry(((), (7,)), 0), 7)

    def test_least(self):
        for row, least in (
                (((), (0,)), ((), (0,))), (((), (0, 0)), ((), (0,))), (((0,), (0,)), ((), (0,))), (((1,), (0, 1)), ((), (1, 0))),
                (((0, 1), (0, 1)), ((), (0, 1))), (((1, 0), (1, 0, 1, 0)), ((), (1, 0))), (((1,), (0,)), ((1,), (0,))),
                (((2, 0, 1, 1), (0, 1, 1)), ((2,), (0, 1, 1))), (((1, 1, 0), (1, 1, 0, 1, 1, 0)), ((), (1, 1, 0))),
                (((0, 1), (1, 0, 1)), ((), (0, 1, 1)))):
            self.assertEqual(least_told(row), least, row)

    def test_all_short_rows(self):
        rows = [(b, r) for n in range(4) for k in range(1, 5) for b in itertools.product((0, 1), repeat=n)
                for r in itertools.product((0, 1), repeat=k)]
        for row in rows:
            self.assertEqual(least_told(row), least_by_hand(row))
        chosen = rows[::7]
        for row in chosen:
            for other in chosen:
                same = [told_entry(row, i) for i in range(20)] == [told_entry(other, i) for i in range(20)]
                self.assertIs(same_told(row, other), same)

    def test_long_rows(self):
        self.assertEqual(least_told(((1, 0) * 15, (1, 0) * 15)), ((), (1, 0)))
        self.assertIs(same_told(((0,) * 30, (0,) * 30), ((), (0,))), True)
        self.assertIs(same_told(((0,) * 59, (1,)), ((0,) * 58, (1,))), False)


def least_by_hand(row):
    """The first told row, by the lengths of its beginning and its round, with the same entries."""
    entries = [told_entry(row, i) for i in range(60)]
    for many in range(60):
        for length in range(1, 13):
            other = (tuple(entries[:many]), tuple(entries[many:many + length]))
            if [told_entry(other, i) for i in range(60)] == entries:
                return other
    raise AssertionError


class KnownTest(unittest.TestCase):
    def test_known(self):
        for sizes, value in (
                ((), ()), ((2,), ()), ((2,), (((0, 0), 1),)), ((2, 3), (((0, 0), 1), ((0, 1), 2), ((1, 0), 0))), ((2,), (((TOP, 0), 1),)),
                ((9, 9, 9, 9), (((5, 3), 8), ((6, 0), 8)))):
            self.assertIs(is_known(sizes, value), True)

    def test_not_known(self):
        for value in (
                (((0, 0), 2),), (((0, 0), -1),), (((0, 2), 0),), (((0, -1), 0),), (((-1, 0), 0),), (((TOP + 1, 0), 0),),
                (((0, 0), True),), (((0, False), 0),), (((True, 0), 0),), (((0, 0), 0), ((0, 0), 0)), (((0, 0), 0), ((0, 0), 1)),
                (((1, 0), 0), ((0, 1), 0)), (((0, 1), 0), ((0, 0), 0)), (((0, 0), 0, 0),), (((0, 0),),), (((0,), 0),), (((0, 0, 0), 0),),
                ((0, 0),), ((0, 0), 0), None, 1, "", True, [((0, 0), 0)], (None,), (("0", 0), 0), ((("0", 0), 0),), (((0, 0), None),),
                ("ab",), (("ab", 0),), (((0, 1), 3),)):
            self.assertIs(is_known((2, 3), value), False, value)
        self.assertIs(is_known((), (((0, 0), 0),)), False)
        self.assertIs(is_known((2,), (((0, 1), 0),)), False)

    def test_together(self):
        one, other = (((0, 0), 1), ((2, 0), 0)), (((0, 1), 1), ((2, 0), 0), ((3, 0), 1))
        self.assertIs(go_together(one, other), True)
        self.assertEqual(together(one, other), (((0, 0), 1), ((0, 1), 1), ((2, 0), 0), ((3, 0), 1)))
        self.assertEqual(together(other, one), together(one, other))
        self.assertIs(go_together(one, (((2, 0), 1),)), False)
        self.assertIs(go_together((((2, 0), 1),), one), False)
        self.assertIs(go_together((), one), True)
        self.assertIs(go_together(one, ()), True)
        self.assertEqual(together((), ()), ())
        self.assertEqual(together(one, ()), one)

    def test_known_at(self):
        rows = (((1,), (0,)), ((), (2, 1)))
        self.assertEqual(known_at(rows, ((1, 1), (0, 0), (5, 0), (0, 1))), (((0, 0), 1), ((0, 1), 2), ((1, 1), 1), ((5, 0), 0)))
        self.assertEqual(known_at(rows, ()), ())
        self.assertEqual(known_at(rows, ((0, 0), (0, 0))), (((0, 0), 1),))
        self.assertEqual(known_at(rows, ((TOP, 1),)), (((TOP, 1), 1),))

    def test_random(self):
        for seed in range(200):
            maker = Maker(seed)
            rows = (maker.told(2), maker.told(3))
            others = (maker.told(2), maker.told(3))
            places = [(i, k) for i in range(4) for k in range(2)]
            one = known_at(rows, tuple(maker.random.sample(places, 4)))
            other = known_at(others, tuple(maker.random.sample(places, 4)))
            self.assertIs(is_known((2, 3), one), True)
            clash = any(place == at and digit != d for place, digit in one for at, d in other)
            self.assertIs(go_together(one, other), not clash)
            if not clash:
                self.assertEqual(together(one, other), tuple(sorted(set(one + other))))


if __name__ == "__main__":
    unittest.main()
