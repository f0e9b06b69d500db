"""DOC.md part N, [99] to [104], and the heading allendless/turners.py."""

import itertools
import unittest
from fractions import Fraction

from allendless.judging import fault_of, kind_of
from allendless.kinds import plainly_named
from allendless.plain import run_told
from allendless.reader import read_term
from allendless.turners import (
    back_table, behind, collision, entry_program, entry_tree, first_unlike, fixed_beginnings, images, is_ahead, keeps_shares,
    needs, reads_back, share_of_image)
from tests import simple
from tests.filling import pair_of
from tests.making import Maker
from tests.test_choosers import term_of_tree
from tests.test_quantify import BIG
from tests.wrong import told_by, what_of

EVEN = read_term("fn r : rows 2. row x of 2. r[x * 2]")
ONES = read_term("fn r : rows 2. row x of 2. if x = 0 then 1:2 else r[x - 1]")
LESS = read_term("fn r : rows 2. row x of 2. as 2 (1 - count(r[x]))")
SAME = read_term("fn r : rows 2. r")
GREAT = read_term(f"fn r : rows 3. row x of 3. as 3 ({BIG} + count(r[x]))")


def random_turner(seed, m, k, length, n, most):
    """A turner whose entries below n are trees over the first entries of its row; entry n and so on is entry 0."""
    maker = Maker(seed)
    made = ("digit", k, seed % k)
    for j in range(n):
        tree = maker.tree((m,), [(i, 0) for i in range(length)], tuple(range(k)), most)
        made = ("if", ("prim", "same", (("var", "x"), ("number", j))), term_of_tree(tree, ("few", k)), made)
    return ("fn", "r", ("rows", m), ("row", "x", k, made))


def result(turner, beginning, n):
    """The first n entries of the result on a row that begins so, with 0 behind it."""
    run = simple.SimpleRun()
    value = run.work(turner, {})(simple.Row(run, {}, 0, (beginning, (0,))))
    return tuple(value.entry(j) for j in range(n))


def results_of(turner, m, length, n):
    return {row: result(turner, row, n) for row in itertools.product(range(m), repeat=length)}


def needs_by(table, length, n):
    """The least number of entries that tell the first n entries of the result."""
    for many in range(length + 1):
        found = {}
        for row, told in table.items():
            found.setdefault(row[:many], set()).add(told[:n])
        if all(len(held) == 1 for held in found.values()):
            return many
    raise AssertionError("the length is too small")


def reads_back_by(table, n, many):
    found = {}
    for row, told in table.items():
        found.setdefault(told[:many], set()).add(row[:n])
    return all(len(held) == 1 for held in found.values()), found


class EntryTest(unittest.TestCase):
    def test_entry_program(self):
        self.assertEqual(entry_program(EVEN, 3), ("fn", "r", ("rows", 2), ("at", EVEN[3], ("number", 3))))
        self.assertEqual(entry_program(SAME, 0), ("fn", "r", ("rows", 2), ("at", ("var", "r"), ("number", 0))))

    def test_entry_tree(self):
        self.assertEqual(entry_tree(EVEN, 2), ("ask", (4, 0), (("end", 0), ("end", 1))))
        self.assertEqual(entry_tree(ONES, 0), ("end", 1))
        self.assertEqual(entry_tree(LESS, 40), ("ask", (40, 0), (("end", 1), ("end", 0))))
        turner = read_term("fn r : rows 2. row x of 2. if r[1] then r[0] else (if r[0] then 1:2 else 0:2)")
        self.assertEqual(entry_tree(turner, 7), ("ask", (0, 0), (("end", 0), ("end", 1))))

    def test_great_entry_trees(self):
        # Entry n + 20 for the first n below many with a 1 there: few ways, but many parts once places ascend.
        for many, word in ((8, None), (9, "tree")):
            made = ("digit", 2, 0)
            for i in range(many):
                first, second = [("at", ("var", "r"), ("number", j)) for j in (i, i + 20)]
                made = ("if", first, second, made)
            turner = ("fn", "r", ("rows", 2), ("row", "x", 2, made))
            self.assertEqual(what_of(entry_tree, turner, 0), word)
            self.assertEqual(needs(turner, 1), 20 + many)

    def test_needs(self):
        self.assertEqual(needs(EVEN, 3), 5)
        self.assertEqual([needs(EVEN, n) for n in range(4)], [0, 1, 3, 5])
        self.assertEqual(needs(ONES, 5), 4)
        self.assertEqual(needs(SAME, 40), 40)
        for seed in range(60):
            m, k = ((2, 2), (2, 3), (3, 2), (4, 9))[seed % 4]
            length = 4 if m < 4 else 3
            turner = random_turner(seed, m, k, length, 4, 3)
            table = results_of(turner, m, length, 4)
            for n in range(5):
                self.assertEqual(needs(turner, n), needs_by(table, length, n))


class BehindTest(unittest.TestCase):
    def test_results(self):
        for seed in range(40):
            sizes = ((2, 2, 2), (2, 3, 2), (3, 2, 4), (2, 4, 3))[seed % 4]
            first = random_turner(seed, sizes[0], sizes[1], 3, 4, 3)
            second = random_turner(seed + 500, sizes[1], sizes[2], 3, 4, 3)
            both = behind(second, first)
            self.assertIsNone(fault_of(both, ()))
            self.assertEqual(kind_of(both, ()), ("to", ("rows", sizes[0]), ("rows", sizes[2])))
            self.assertEqual((both[0], both[2]), ("fn", ("rows", sizes[0])))
            self.assertEqual(plainly_named(both), both)
            for row in itertools.product(range(sizes[0]), repeat=3):
                self.assertEqual(result(both, row, 4), result(second, result(first, row, 4), 4))
            for n in range(4):
                self.assertLessEqual(needs(both, n), needs(first, needs(second, n)))

    def test_both_orders(self):
        one, two = behind(ONES, EVEN), behind(EVEN, ONES)
        self.assertEqual(result(one, (0, 1, 1, 0, 0), 4), (1, 0, 1, 0))
        self.assertEqual(result(two, (0, 1, 1, 0, 0), 3), (1, 1, 0))
        self.assertEqual([needs(one, n) for n in range(5)], [0, 0, 1, 3, 5])
        self.assertEqual([needs(two, n) for n in range(4)], [0, 0, 2, 4])
        self.assertIsNone(first_unlike(behind(behind(LESS, ONES), EVEN), behind(LESS, behind(ONES, EVEN)), 10))
        self.assertIsNone(first_unlike(behind(LESS, LESS), SAME, 12))

    def test_names(self):
        for other in (LESS, plainly_named(LESS), read_term("fn row0 : rows 2. row r of 2. as 2 (1 - count(row0[r]))")):
            self.assertEqual(result(behind(other, LESS), (0, 1, 1), 3), (0, 1, 1))
            self.assertEqual(result(behind(plainly_named(EVEN), other), (0, 1, 1), 2), (1, 0))

    def test_wrong_kinds(self):
        to_three = read_term("fn r : rows 2. row x of 3. as 3 (count(r[x]) + 1)")
        self.assertEqual(told_by(behind, to_three, to_three), ("WrongKind",))
        self.assertEqual(told_by(behind, EVEN, to_three), ("WrongKind",))
        self.assertEqual(kind_of(behind(to_three, EVEN), ()), ("to", ("rows", 2), ("rows", 3)))
        self.assertEqual(told_by(behind, GREAT, EVEN), ("WrongKind",))
        self.assertEqual(told_by(behind, EVEN, GREAT), ("WrongKind",))
        self.assertEqual(kind_of(behind(GREAT, GREAT), ()), ("to", ("rows", 3), ("rows", 3)))


class UnlikeTest(unittest.TestCase):
    def test_random_turners(self):
        for seed in range(80):
            m, k = ((2, 2), (3, 2), (2, 3))[seed % 3]
            one, two = random_turner(seed, m, k, 3, 4, 2), random_turner(seed + 900, m, k, 3, 4, 2)
            first, second = results_of(one, m, 3, 4), results_of(two, m, 3, 4)
            for n in range(5):
                unlike = [j for j in range(n) if any(first[row][j] != second[row][j] for row in first)]
                found = first_unlike(one, two, n)
                if not unlike:
                    self.assertIsNone(found)
                    continue
                j = unlike[0]
                parting = [begun for length in range(4) for begun in itertools.product(range(m), repeat=length)
                           if all(first[row][j] != second[row][j] for row in first if row[:length] == begun)]
                self.assertEqual(found, (j, parting[0]))

    def test_edges(self):
        self.assertIsNone(first_unlike(EVEN, LESS, 0))
        self.assertEqual(first_unlike(EVEN, LESS, 3), (0, ()))
        self.assertEqual(first_unlike(SAME, ONES, 3), (0, (0,)))
        self.assertEqual(first_unlike(SAME, EVEN, 2), (1, (0, 0, 1)))
        self.assertIsNone(first_unlike(SAME, EVEN, 1))
        late = read_term("fn r : rows 2. row x of 2. if x = 39 then r[0] else r[x]")
        self.assertIsNone(first_unlike(SAME, late, 39))
        self.assertEqual(first_unlike(SAME, late, 40), (39, (0,) * 39 + (1,)))

    def test_wrong_kinds(self):
        three = read_term("fn r : rows 3. row x of 3. r[x]")
        to_three = read_term("fn r : rows 2. row x of 3. as 3 (count(r[x]))")
        for one, two in ((SAME, three), (three, SAME), (SAME, to_three), (to_three, three), (GREAT, SAME), (SAME, GREAT), (to_three, GREAT)):
            self.assertEqual(told_by(first_unlike, one, two, 3), ("WrongKind",))
        self.assertIn(what_of(first_unlike, GREAT, three, 3), ("program", None))


class ImageTest(unittest.TestCase):
    def test_random_turners(self):
        kept = 0
        for seed in range(44):
            m, k = ((2, 2), (3, 2), (2, 3), (4, 2))[seed % 4]
            turner = random_turner(seed, m, k, 3, 3, 3)
            table = results_of(turner, m, 3, 3)
            for n in range(4):
                shares = {}
                for told in table.values():
                    shares[told[:n]] = shares.get(told[:n], Fraction(0)) + Fraction(1, len(table))
                self.assertEqual(images(turner, n), tuple(sorted(shares)))
                for w in itertools.product(range(k), repeat=n):
                    self.assertEqual(share_of_image(turner, w), pair_of(shares.get(w, Fraction(0))))
                is_even = all(shares.get(w, 0) == Fraction(1, k ** n) for w in itertools.product(range(k), repeat=n))
                self.assertIs(keeps_shares(turner, n), is_even)
                kept += is_even and n > 0
        self.assertGreater(kept, 2)

    def test_shares_that_are_kept(self):
        self.assertIs(keeps_shares(EVEN, 6), True)
        self.assertIs(keeps_shares(LESS, 12), True)
        self.assertIs(keeps_shares(ONES, 1), False)
        self.assertIs(keeps_shares(ONES, 0), True)
        four = read_term("fn r : rows 4. row x of 2. as 2 (count(r[x]))")
        self.assertIs(keeps_shares(four, 6), True)
        three = read_term("fn r : rows 3. row x of 2. as 2 (count(r[x]))")
        self.assertIs(keeps_shares(three, 1), False)
        self.assertEqual(share_of_image(three, (1, 0)), (2, 9))
        # All images come, but not with the same shares.
        self.assertEqual(images(three, 2), ((0, 0), (0, 1), (1, 0), (1, 1)))
        self.assertEqual(share_of_image(three, ()), (1, 1))
        self.assertEqual(images(EVEN, 0), ((),))
        self.assertEqual(share_of_image(ONES, (0,)), (0, 1))


class FixedTest(unittest.TestCase):
    def test_random_turners(self):
        for seed in range(60):
            m = 2 + seed % 2
            turner = random_turner(seed, m, m, 3, 3, 3)
            table = results_of(turner, m, 3, 3)
            for n in range(4):
                wanted = sorted({row[:n] for row, told in table.items() if told[:n] == row[:n]})
                self.assertEqual(fixed_beginnings(turner, n), tuple(wanted))
                ahead = all(needs_by({row: (told[j],) for row, told in table.items()}, 3, 1) <= j for j in range(n))
                self.assertIs(is_ahead(turner, n), ahead)
                if ahead:
                    self.assertEqual(len(wanted), 1)

    def test_examples(self):
        self.assertIs(is_ahead(ONES, 40), True)
        self.assertEqual([fixed_beginnings(ONES, n) for n in range(4)], [((),), ((1,),), ((1, 1),), ((1, 1, 1),)])
        self.assertEqual(fixed_beginnings(LESS, 1), ())
        self.assertEqual(fixed_beginnings(LESS, 0), ((),))
        self.assertIs(is_ahead(LESS, 0), True)
        self.assertIs(is_ahead(LESS, 1), False)
        self.assertIs(is_ahead(SAME, 1), False)
        self.assertEqual(len(fixed_beginnings(SAME, 12)), 4096)
        self.assertEqual(fixed_beginnings(EVEN, 2), ((0, 0), (0, 1), (1, 0), (1, 1)))
        self.assertEqual(fixed_beginnings(EVEN, 3), fixed_by(EVEN, 2, 5, 3))

    def test_wrong_kinds(self):
        to_three = read_term("fn r : rows 2. row x of 3. as 3 (count(r[x]))")
        great = read_term(f"fn r : rows 3. row x of 2. as 2 ({BIG} + count(r[x]))")
        for turner in (to_three, great):
            for n in (0, 3, 40):
                self.assertEqual(told_by(fixed_beginnings, turner, n), ("WrongKind",))
                self.assertEqual(told_by(is_ahead, turner, n), ("WrongKind",))


def fixed_by(turner, m, length, n):
    table = results_of(turner, m, length, n)
    return tuple(sorted({row[:n] for row, told in table.items() if told == row[:n]}))


class BackTest(unittest.TestCase):
    def check_collision(self, turner, m, n, many):
        one, two = collision(turner, n, many)
        self.assertEqual(len(one), len(two))
        self.assertNotEqual(one[:n], two[:n])
        self.assertGreaterEqual(len(one), needs(turner, many))
        self.assertEqual(result(turner, one, many), result(turner, two, many))
        self.assertEqual(result(turner, one + (m - 1,) * 8, many), result(turner, two + (1, 0, m - 1), many))

    def test_random_turners(self):
        told = {True: 0, False: 0}
        for seed in range(32):
            m, k = ((2, 2), (2, 3), (3, 4), (2, 4))[seed % 4]
            turner = random_turner(seed, m, k, 3, 4, 3)
            table = results_of(turner, m, 3, 4)
            for n in range(4):
                least_one = None
                for many in range(4, -1, -1):
                    is_back, found = reads_back_by(table, n, many)
                    if is_back:
                        least_one = many
                        wanted = tuple(sorted((told, next(iter(held))) for told, held in found.items()))
                        self.assertEqual(back_table(turner, n, many), wanted)
                        self.assertIsNone(collision(turner, n, many))
                    else:
                        self.assertIsNone(back_table(turner, n, many))
                        self.check_collision(turner, m, n, many)
                    told[is_back] += n > 0
                self.assertEqual(reads_back(turner, n, 4), least_one)
                if least_one:
                    self.assertIsNone(reads_back(turner, n, least_one - 1))
                    self.assertEqual(reads_back(turner, n, least_one), least_one)
        self.assertGreater(min(told.values()), 20)

    def test_examples(self):
        self.assertEqual(reads_back(LESS, 3, 12), 3)
        self.assertEqual(back_table(LESS, 1, 1), (((0,), (1,)), ((1,), (0,))))
        self.assertEqual(reads_back(ONES, 2, 40), 3)
        self.assertEqual(reads_back(ONES, 2, 3), 3)
        self.assertIsNone(reads_back(ONES, 2, 2))
        self.assertEqual(reads_back(EVEN, 1, 1), 1)
        self.assertEqual(reads_back(EVEN, 0, 0), 0)
        self.assertEqual(back_table(EVEN, 0, 0), (((), ()),))
        self.assertIsNone(collision(EVEN, 0, 2))
        self.assertIsNone(reads_back(EVEN, 2, 6))
        self.assertIsNone(back_table(EVEN, 2, 6))
        self.check_collision(EVEN, 2, 2, 6)
        self.assertEqual(reads_back(SAME, 12, 12), 12)
        # Two entries of the result for each of the row.
        twice = read_term("fn r : rows 2. row x of 2. if x | 2 = 0 then r[x / 2] else as 2 (1 - count(r[x / 2]))")
        self.assertEqual([reads_back(twice, n, 12) for n in range(4)], [0, 1, 3, 5])
        self.assertEqual(back_table(twice, 1, 2), (((0, 1), (0,)), ((1, 0), (1,))))


class BoundTest(unittest.TestCase):
    def test_beginnings(self):
        # 4,096 beginnings, and just above, by the greater one of the number and of needs.
        short = read_term("fn r : rows 2. row x of 2. r[0]")
        for reader, m, most in ((short, 2, 12), (SAME, 2, 12), (read_term("fn r : rows 4. row x of 4. r[0]"), 4, 6),
                                (read_term("fn r : rows 8. row x of 8. r[0]"), 8, 4), (read_term("fn r : rows 9. row x of 9. r[0]"), 9, 3)):
            self.assertEqual(m ** most <= 4096 < m ** (most + 1), True)
            for function in (images, keeps_shares, fixed_beginnings):
                self.assertIsNone(what_of(function, reader, most))
                self.assertEqual(told_by(function, reader, most + 1), ("TooGreat", "beginnings"))
            self.assertIsNone(what_of(share_of_image, reader, (0,) * most))
            self.assertEqual(what_of(share_of_image, reader, (0,) * (most + 1)), "beginnings")
            for function in (back_table, collision, reads_back):
                self.assertIsNone(what_of(function, reader, most, 2))
                self.assertEqual(what_of(function, reader, most + 1, 2), "beginnings")
                self.assertEqual(what_of(function, reader, most + 1, 0), "beginnings")

    def test_needs(self):
        for last, word in ((11, None), (12, "beginnings"), (10 ** 18 - 1, "beginnings")):
            turner = read_term(f"fn r : rows 2. row x of 2. if x = 2 then r[{last}] else r[x]")
            for function in (images, keeps_shares, fixed_beginnings):
                self.assertEqual(what_of(function, turner, 3), word)
                self.assertIsNone(what_of(function, turner, 2))
            self.assertEqual(what_of(share_of_image, turner, (0, 1, 0)), word)
            self.assertIsNone(what_of(share_of_image, turner, (0, 1)))
            for function in (back_table, collision):
                self.assertEqual(what_of(function, turner, 1, 3), word)
                self.assertIsNone(what_of(function, turner, 1, 2))
            # Of the N that it comes to: 1 for n = 1; it comes to 3 for n = 3.
            self.assertEqual(reads_back(turner, 1, 40), 1)
            self.assertEqual(reads_back(turner, 2, 40), 2)
            self.assertIsNone(reads_back(turner, 3, 2))
            self.assertEqual(what_of(reads_back, turner, 3, 3), word)
            self.assertEqual(needs(turner, 3), last + 1)
            self.assertIs(is_ahead(turner, 3), False)

    def test_places_that_are_not_needed(self):
        # Places that are asked but not needed do not count.
        turner = read_term("fn r : rows 2. row x of 2. if r[500] then r[x] else r[x]")
        self.assertEqual(images(turner, 2), ((0, 0), (0, 1), (1, 0), (1, 1)))
        self.assertEqual(needs(turner, 3), 3)
        self.assertEqual(reads_back(turner, 2, 5), 2)

    def test_programs_that_are_not_small(self):
        for call in (lambda: needs(GREAT, 1), lambda: images(GREAT, 1), lambda: entry_tree(GREAT, 0), lambda: is_ahead(GREAT, 1)):
            self.assertIn(what_of(call), ("program", None))
        self.assertEqual(needs(GREAT, 0), 0)
        self.assertEqual(run_told(entry_program(EVEN, 1), (((0, 0, 1), (0,)),))[0], 1)


if __name__ == "__main__":
    unittest.main()
