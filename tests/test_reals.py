"""DOC.md part M, [91] to [94], [98], and the heading allendless/reals.py."""

import itertools
import random
import unittest
from fractions import Fraction

from allendless.judging import kind_of
from allendless.plain import run_told, value_of as value_of_term
from allendless.reader import read_term
from allendless.reals import (
    average_term, constant_term, halved_term, negated_term, reach, respects, row_of, same_numbers, sum_of, value_of)
from allendless.told import is_told, told_entry
from tests import simple
from tests.making import Maker
from tests.test_choosers import term_of_tree
from tests.wrong import told_by, what_of

ROWS = ("rows", 3)
BEND = read_term("fn r : rows 3. row i of 3. if count(r[i]) = 0 then 2:3 else 1:3")
SAME = read_term("fn r : rows 3. r")


def number_of(row):
    """The number of a told row by its definition, the round being summed up as a whole."""
    beginning, around = row
    total = sum((Fraction(d - 1, 2 ** (i + 1)) for i, d in enumerate(beginning)), Fraction(0))
    turn = sum((Fraction(d - 1, 2 ** (i + 1)) for i, d in enumerate(around)), Fraction(0))
    return total + turn / (1 - Fraction(1, 2 ** len(around))) / 2 ** len(beginning)


def sum_by(entries):
    return sum((d - 1) * 2 ** (len(entries) - 1 - i) for i, d in enumerate(entries))


def result(program, rows, n):
    """The first n entries of the result on told rows, worked out a second time."""
    run = simple.SimpleRun()
    value = run.work(program, {})
    for k, row in enumerate(rows):
        value = value(simple.Row(run, {}, k, row))
    return tuple(value.entry(j) for j in range(n))


def beginnings(count):
    return list(itertools.product(range(3), repeat=count))


def table_of(program, many, length, n):
    """The first n entries of the results for all beginnings of a length, with 0 behind them."""
    told = {}
    for rows in itertools.product(beginnings(length), repeat=many):
        told[rows] = result(program, [(row, (0,)) for row in rows], n)
    return told


def reach_by(table, length, j):
    """The least q such that the first j entries hang on the first q entries alone."""
    for q in range(length + 1):
        found = {}
        for rows, entries in table.items():
            found.setdefault(tuple(row[:q] for row in rows), set()).add(entries[:j])
        if all(len(held) == 1 for held in found.values()):
            return q
    raise AssertionError("the length is too small")


def are_near(row, other):
    return all(abs(sum_by(row[:n]) - sum_by(other[:n])) <= 2 for n in range(len(row) + 1))


def respects_by(program, many, length, n):
    """What respects tells, by going through all pairs of beginnings."""
    table = table_of(program, many, length, n)
    cut = {}
    for j in range(n + 1):
        q = reach_by(table, length, j)
        cut = {tuple(row[:q] for row in rows): entries for rows, entries in table.items()}
        for digits in itertools.product(range(3), repeat=2 * many * q):
            pairs = tuple((digits[2 * k::2 * many], digits[2 * k + 1::2 * many]) for k in range(many))
            if all(are_near(row, other) for row, other in pairs):
                one = cut[tuple(row for row, _ in pairs)][:j]
                two = cut[tuple(other for _, other in pairs)][:j]
                if abs(sum_by(one) - sum_by(two)) > 2:
                    return (j, pairs)
    return None


def same_by(program, other, many, length, n):
    table, table_two = table_of(program, many, length, n), table_of(other, many, length, n)
    for j in range(n + 1):
        q = max(reach_by(table, length, j), reach_by(table_two, length, j))
        for digits in itertools.product(range(3), repeat=many * q):
            rows = tuple(digits[k::many] for k in range(many))
            full = tuple(row + (0,) * (length - q) for row in rows)
            if abs(sum_by(table[full][:j]) - sum_by(table_two[full][:j])) > 2:
                return (j, rows)
    return None


def with_rows(term, many):
    """A term with rows named r, s, t ahead."""
    for name in "rst"[:many][::-1]:
        term = ("fn", name, ROWS, term)
    return term


def random_program(seed, many, length, n, most):
    """A number program whose entries below n are trees over the first entries of its rows."""
    maker = Maker(seed)
    places = [(i, k) for i in range(length) for k in range(many)]
    made = ("digit", 3, 1)
    for j in range(n):
        tree = maker.tree((3,) * many, places, (0, 1, 2), most)
        made = ("if", ("prim", "same", (("var", "x"), ("number", j))), rows_term(tree), made)
    return with_rows(("row", "x", 3, made), many)


def rows_term(tree):
    """A term that asks rows r, s, t as a tree does."""
    if tree[0] == "end":
        return ("digit", 3, tree[1])
    (i, k), branches = tree[1], [rows_term(branch) for branch in tree[2]]
    entry = ("count", ("at", ("var", "rst"[k]), ("number", i)))
    first, second = [("prim", "same", (entry, ("number", d))) for d in (0, 1)]
    return ("if", first, branches[0], ("if", second, branches[1], branches[2]))


class NumberTest(unittest.TestCase):
    def test_examples(self):
        self.assertEqual(value_of(((2,), (0,))), (0, 1))
        self.assertEqual(value_of(((), (1, 2))), (1, 3))
        self.assertEqual(row_of(1, 3), ((), (1, 2)))
        self.assertEqual(value_of(((), (2,))), (1, 1))
        self.assertEqual(value_of(((), (0,))), (-1, 1))
        self.assertEqual(value_of(((1, 1), (1,))), (0, 1))

    def test_value_of(self):
        rng = random.Random(0)
        for _ in range(300):
            beginning = tuple(rng.randrange(3) for _ in range(rng.randrange(30)))
            around = tuple(rng.randrange(3) for _ in range(rng.randrange(1, 30)))
            wanted = number_of((beginning, around))
            self.assertEqual(value_of((beginning, around)), (wanted.numerator, wanted.denominator))
        long = (tuple(rng.randrange(3) for _ in range(3000)), tuple(rng.randrange(3) for _ in range(2000)))
        wanted = number_of(long)
        self.assertEqual(value_of(long), (wanted.numerator, wanted.denominator))

    def test_sum_of(self):
        self.assertEqual(sum_of(()), 0)
        self.assertEqual(sum_of((2,)), 1)
        self.assertEqual(sum_of((0, 0, 2)), -4 - 2 + 1)
        for entries in beginnings(5):
            self.assertEqual(sum_of(entries), sum_by(entries))

    def test_sums_and_numbers(self):
        # The rows that begin so have just the numbers from (S - 1) / 2 ** n to (S + 1) / 2 ** n.
        for entries in beginnings(3):
            middle = Fraction(sum_of(entries), 8)
            self.assertEqual(value_of((entries, (2,))), pair(middle + Fraction(1, 8)))
            self.assertEqual(value_of((entries, (0,))), pair(middle - Fraction(1, 8)))

    def test_row_of(self):
        for q in list(range(1, 51)) + [64, 127]:
            for p in range(-q, q + 1):
                self.check_row(p, q)
        for p in (-4096, -4095, -2049, -2048, -1, 0, 1, 3, 1365, 2047, 2048, 4095, 4096):
            self.check_row(p, 4096)
        for p in (-4093, 5, 2000, 4092):
            self.check_row(p, 4093)

    def check_row(self, p, q):
        row = row_of(p, q)
        self.assertTrue(is_told(3, row))
        self.assertEqual(value_of(row), pair(Fraction(p, q)))
        x = Fraction(p, q)
        met = []
        while x not in met:
            met.append(x)
            entry = 2 if x >= Fraction(1, 2) else 0 if x <= Fraction(-1, 2) else 1
            self.assertEqual(told_entry(row, len(met) - 1), entry)
            x = 2 * x - (entry - 1)
            if len(met) > 60:
                return
        # The round begins at the first x that comes again, and is as long as it takes to come again.
        self.assertEqual(len(row[0]), met.index(x))
        self.assertEqual(len(row[1]), len(met) - met.index(x))

    def test_edges_of_rows(self):
        self.assertEqual(row_of(1, 1), ((), (2,)))
        self.assertEqual(row_of(-1, 1), ((), (0,)))
        self.assertEqual(row_of(0, 7), ((), (1,)))
        self.assertEqual(row_of(1, 2), ((2,), (1,)))
        self.assertEqual(row_of(2, 4), ((2,), (1,)))
        self.assertEqual(row_of(-3, 4), ((0, 0), (1,)))


def pair(fraction):
    return (fraction.numerator, fraction.denominator)


class ReachTest(unittest.TestCase):
    def test_reach(self):
        self.assertEqual([reach(SAME, n) for n in range(6)], [0, 1, 2, 3, 4, 5])
        self.assertEqual([reach(halved_term(), n) for n in range(6)], [0, 0, 1, 2, 3, 4])
        self.assertEqual([reach(average_term(), n) for n in range(3)], [0, 2, 3])
        self.assertEqual(reach(constant_term(((0, 1), (2, 0))), 10), 0)
        for seed in range(24):
            many = 1 + seed % 3
            length = (4, 3, 2)[many - 1]
            program = random_program(seed, many, length, 3, 3)
            table = table_of(program, many, length, 3)
            for n in range(4):
                self.assertEqual(reach(program, n), reach_by(table, length, n))

    def test_kinds_of_number_programs(self):
        # The parameters need not be told by fn ahead.
        program = read_term("(fn n : num. fn r : rows 3. fn s : rows 3. if n = 0 then r else s) (1)")
        self.assertEqual([reach(program, n) for n in range(4)], [0, 1, 2, 3])
        self.assertEqual(same_numbers(program, read_term("fn o : rows 3. fn r0 : rows 3. r0"), 3), None)
        self.assertEqual(reach(read_term("fn program : rows 3. fn o : rows 3. fn r0 : rows 3. row r1 of 3. "
                                         "if o[r1 * 2] < 1:3 then program[r1] else r0[0]".replace(
                                             "o[r1 * 2] < 1:3", "count(o[r1 * 2]) < 1")), 3), 5)

    def test_great_reach(self):
        program = read_term(f"fn r : rows 3. row i of 3. if i = 2 then r[{10 ** 18 - 1}] else r[i]")
        self.assertEqual(reach(program, 2), 2)
        self.assertEqual(reach(program, 3), 10 ** 18)
        self.assertEqual(told_by(respects, program, 3), ("TooGreat", "reach"))
        self.assertEqual(what_of(reach, SAME, 10), "program")


class RespectTest(unittest.TestCase):
    def test_example(self):
        self.assertEqual(respects(BEND, 3), (3, (((0, 0, 2), (1, 0, 0)),)))
        for n in range(3):
            self.assertIsNone(respects(BEND, n))
        self.assertEqual(respects(BEND, 4), (3, (((0, 0, 2), (1, 0, 0)),)))

    def test_terms(self):
        for n in range(6):
            self.assertIsNone(respects(SAME, n))
            self.assertIsNone(respects(negated_term(), n))
            self.assertIsNone(respects(halved_term(), n))
        for n in range(11):
            self.assertIsNone(respects(constant_term(((0, 2), (1, 0, 2))), n))
        for n in range(3):
            self.assertIsNone(respects(average_term(), n))

    def test_random_programs(self):
        told = 0
        for seed in range(48):
            many = 1 + seed % 2
            length = (3, 2)[many - 1] if seed % 5 else (4, 2)[many - 1]
            program = random_program(seed, many, length, 3, 3)
            wanted = respects_by(program, many, length, 3)
            self.assertEqual(respects(program, 3), wanted, seed)
            told += wanted is not None
        self.assertGreater(told, 15)

    def test_three_parameters(self):
        for seed in range(12):
            program = random_program(seed, 3, 1, 3, 2)
            self.assertEqual(respects(program, 3), respects_by(program, 3, 1, 3))

    def test_programs_near_to_those_that_respect(self):
        # One entry changed: where it is unlike only where the sums are near still.
        for text in ("if i = 2 then (if count(r[2]) = 1 then 0:3 else r[2]) else r[i]", "if i = 1 then 1:3 else r[i]",
                     "if i = 0 then 1:3 else if i = 1 then r[0] else r[i - 1]", "if count(r[0]) = 0 then 0:3 else r[i]",
                     "if i = 2 then 1:3 else r[i]", "if i = 3 then 1:3 else r[i]", "as 3 (count(r[i]) + 1)"):
            program = read_term(f"fn r : rows 3. row i of 3. {text}")
            for n in (2, 3, 4):
                self.assertEqual(respects(program, n), respects_by(program, 1, 4, n), text)

    def test_reach_of_respects(self):
        # 24 and 25, whatever holds for lesser n.
        for last, word in ((23, None), (24, "reach")):
            program = read_term(f"fn r : rows 3. fn s : rows 3. row i of 3. if i = 2 then s[{last}] else if i = 0 then 1:3 else r[0]")
            self.assertEqual(what_of(respects, program, 3), word)
            self.assertIsNone(respects(program, 2))
            bad = read_term(f"fn r : rows 3. fn s : rows 3. row i of 3. if i = 3 then s[{last}] else if count(r[i]) = 0 then 2:3 else 1:3")
            self.assertEqual(respects(bad, 3)[0], 3)
            self.assertEqual(what_of(respects, bad, 4), word)
            self.assertEqual(what_of(same_numbers, bad, bad, 4), word)
            self.assertEqual(what_of(same_numbers, bad, program, 4), word)
            self.assertEqual(what_of(same_numbers, program, bad, 4), word)

    def test_far_entries(self):
        # Entry 23 alone decides; the first pairs are unlike there, and rows of one number ahead of it.
        program = read_term("fn r : rows 3. row i of 3. r[23]")
        j, pairs = respects(program, 2)
        self.assertEqual(j, 2)
        (row, other), = pairs
        self.assertEqual((len(row), len(other)), (24, 24))
        self.assertTrue(are_near(row, other))
        self.assertEqual((row, other), ((0,) * 24, (0,) * 23 + (1,)))
        program = read_term("fn r : rows 3. fn s : rows 3. fn t : rows 3. row i of 3. if i = 0 then r[20] else if i = 1 then s[21] else t[23]")
        j, pairs = respects(program, 3)
        self.assertEqual(j, 2)
        for row, other in pairs:
            self.assertEqual(len(row), 22)
            self.assertTrue(are_near(row, other))
        self.assertEqual(pairs[2], ((0,) * 22, (0,) * 22))


    def test_far_entries_that_do_not_matter(self):
        # x / 2, two of its entries told in one of two ways by entry 23: all pairs have to be gone through.
        bend = "if count(r[0]) = 2 then (if count(r[1]) = 0 then (if count(r[23]) = 0 then 1:2 else 0:2) else 0:2) else 0:2"
        program = read_term(f"fn r : rows 3. row i of 3. if i = 0 then 1:3 else if ({bend}) then "
                            "(if i = 1 then 1:3 else if i = 2 then 2:3 else r[i - 1]) else r[i - 1]")
        self.assertEqual([reach(program, n) for n in range(5)], [0, 0, 24, 24, 24])
        for n in range(5):
            self.assertIsNone(respects(program, n))
            self.assertIsNone(same_numbers(program, halved_term(), n))
        wrong = read_term(f"fn r : rows 3. row i of 3. if i = 0 then 1:3 else if ({bend}) then "
                          "(if i = 1 then 0:3 else if i = 2 then 2:3 else r[i - 1]) else r[i - 1]")
        j, ((row, other),) = respects(wrong, 4)
        self.assertEqual(j, 3)
        self.assertTrue(are_near(row, other))
        self.assertEqual(same_numbers(wrong, halved_term(), 4), (4, ((2,) + (0,) * 23,)))


class SameNumbersTest(unittest.TestCase):
    def test_random_programs(self):
        told = 0
        for seed in range(36):
            many = 1 + seed % 3
            length = (4, 2, 2)[many - 1]
            program = random_program(seed, many, length, 3, 2)
            other = random_program(seed + 1000, many, length, 3, 2)
            wanted = same_by(program, other, many, length, 3)
            self.assertEqual(same_numbers(program, other, 3), wanted)
            told += wanted is not None
        self.assertGreater(told, 15)

    def test_programs_of_the_same_numbers(self):
        self.assertIsNone(same_numbers(SAME, SAME, 5))
        # -(-x), and (x + x) / 2.
        twice = read_term("fn r : rows 3. row i of 3. as 3 (2 - count(as 3 (2 - count(r[i]))))")
        self.assertIsNone(same_numbers(SAME, twice, 5))
        middle = ("fn", "q", ROWS, ("call", ("call", average_term(), ("var", "q")), ("var", "q")))
        for n in range(4):
            self.assertIsNone(same_numbers(SAME, middle, n))
        self.assertIsNone(same_numbers(constant_term(((2,), (0,))), constant_term(((1,), (1,))), 10))
        self.assertEqual(same_numbers(constant_term(((2,), (0,))), constant_term(((1,), (2,))), 10), (4, ((),)))
        self.assertEqual(same_numbers(SAME, negated_term(), 3), (2, ((0, 0),)))
        self.assertIsNone(same_numbers(SAME, negated_term(), 1))

    def test_greater_reach(self):
        # The beginnings have as many entries as the greater one of both reaches.
        one = read_term("fn r : rows 3. row i of 3. 0:3")
        two = read_term("fn r : rows 3. row i of 3. if i = 0 then r[6] else 2:3")
        self.assertEqual(same_numbers(one, two, 2), (2, ((0, 0, 0, 0, 0, 0, 1),)))
        self.assertEqual(same_numbers(two, one, 2), (2, ((0, 0, 0, 0, 0, 0, 1),)))
        self.assertIsNone(same_numbers(two, one, 1))


class TermTest(unittest.TestCase):
    def test_kinds(self):
        one = ("to", ROWS, ROWS)
        self.assertEqual(kind_of(negated_term(), ()), one)
        self.assertEqual(kind_of(halved_term(), ()), one)
        self.assertEqual(kind_of(constant_term(((), (1,))), ()), one)
        self.assertEqual(kind_of(average_term(), ()), ("to", ROWS, one))

    def told(self, seed, most=12):
        rng = random.Random(seed)
        digits = tuple(rng.randrange(3) for _ in range(rng.randrange(1, most + 1)))
        cut = rng.randrange(len(digits))
        return (digits[:cut], digits[cut:])

    def entries(self, program, rows, n):
        found = []
        names = [f"r{k}" for k in range(len(rows))]
        for j in range(n):
            term = program
            for name in names:
                term = ("call", term, ("var", name))
            term = ("at", term, ("number", j))
            for name in names[::-1]:
                term = ("fn", name, ROWS, term)
            found.append(run_told(term, rows)[0])
        return found

    def test_entries(self):
        for seed in range(40):
            r, s = self.told(seed, 40), self.told(seed + 500, 40)
            first = [told_entry(r, i) for i in range(60)]
            second = [told_entry(s, i) for i in range(60)]
            self.assertEqual(self.entries(negated_term(), (r,), 60), [2 - d for d in first])
            self.assertEqual(self.entries(halved_term(), (r,), 60), [1] + first[:59])
            t = [a + b - 2 for a, b in zip(first, second)]
            c = []
            for i in range(59):
                c.append(1 if t[i] == 2 or (t[i] == 1 and t[i + 1] > 0) else -1 if t[i] == -2 or (t[i] == -1 and t[i + 1] < 0) else 0)
            wanted = [1 + c[0]] + [1 + t[i] - 2 * c[i] + c[i + 1] for i in range(57)]
            self.assertEqual(self.entries(average_term(), (r, s), 58), wanted)
            short = self.told(seed)
            self.assertEqual(self.entries(constant_term(short), (r,), 60), [told_entry(short, i) for i in range(60)])
            far = ("at", ("call", constant_term(short), ("var", "r")), ("number", 10 ** 18 - 1))
            self.assertEqual(run_told(("fn", "r", ROWS, far), (r,))[0], told_entry(short, 10 ** 18 - 1))

    def test_numbers(self):
        # The sums of the first n entries are as near as they have to be.
        for seed in range(60):
            r, s = self.told(seed, 50), self.told(seed + 500, 50)
            x, y = Fraction(*value_of(r)), Fraction(*value_of(s))
            for program, rows, wanted in (
                    (negated_term(), (r,), -x), (halved_term(), (r,), x / 2), (average_term(), (r, s), (x + y) / 2),
                    (constant_term(self.told(seed)), (r,), Fraction(*value_of(self.told(seed))))):
                entries = self.entries(program, rows, 40)
                for n in (1, 2, 10, 40):
                    self.assertLessEqual(abs(wanted - Fraction(sum_of(entries[:n]), 2 ** n)), Fraction(1, 2 ** n))

    def test_equal_calls(self):
        self.assertEqual(average_term(), average_term())
        self.assertEqual(value_of_term(("at", ("call", constant_term(((0,), (1, 2))), read_term("row x of 3. 0:3")), ("number", 4)))[0], 2)
        self.assertEqual(term_of_tree(("end", 2), ("few", 3)), ("digit", 3, 2))


if __name__ == "__main__":
    unittest.main()
