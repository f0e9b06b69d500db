"""DOC.md part M, [95] to [97], and the heading allendless/areas.py."""

import itertools
import unittest
from fractions import Fraction

from allendless.areas import area, greatest_value, least_value, mean_value, root
from allendless.kinds import plainly_named
from allendless.reader import read_term
from allendless.reals import average_term, constant_term, halved_term, negated_term, row_of, sum_of, value_of
from tests.test_reals import ROWS, SAME, pair, random_program, result, sum_by, table_of
from tests.wrong import told_by, what_of


def around(total, n):
    return (pair(Fraction(total - 1, 2 ** n)), pair(Fraction(total + 1, 2 ** n)))


class ValueTest(unittest.TestCase):
    def test_random_programs(self):
        for seed in range(30):
            many = 1 + seed % 3
            length = (4, 2, 1)[many - 1]
            program = random_program(seed, many, length, 3, 3)
            table = table_of(program, many, length, 3)
            even = [entries for rows, entries in table.items() if all(d != 1 for row in rows for d in row)]
            self.assertEqual(len(even), 2 ** (many * length))
            for n in range(4):
                sums = [sum_by(entries[:n]) for entries in table.values()]
                self.assertEqual(greatest_value(program, n), around(max(sums), n))
                self.assertEqual(least_value(program, n), around(min(sums), n))
                mean = Fraction(sum(sum_by(entries[:n]) for entries in even), len(even) * 2 ** n)
                self.assertEqual(mean_value(program, n), pair(mean))
                low, high = mean - Fraction(1, 2 ** n), mean + Fraction(1, 2 ** n)
                self.assertEqual(area(program, n), (pair(2 ** many * low), pair(2 ** many * high)))

    def test_edges(self):
        for program in (SAME, average_term()):
            self.assertEqual(greatest_value(program, 0), ((-1, 1), (1, 1)))
            self.assertEqual(least_value(program, 0), ((-1, 1), (1, 1)))
            self.assertEqual(mean_value(program, 0), (0, 1))
        self.assertEqual(area(SAME, 0), ((-2, 1), (2, 1)))
        self.assertEqual(area(average_term(), 0), ((-4, 1), (4, 1)))
        third = constant_term(row_of(1, 3))
        self.assertEqual(greatest_value(third, 10), around(341, 10))
        self.assertEqual(least_value(third, 10), around(341, 10))
        self.assertEqual(mean_value(third, 10), (341, 1024))
        self.assertEqual(area(third, 10), ((85, 128), (171, 256)))
        self.assertEqual(greatest_value(SAME, 5), ((15, 16), (1, 1)))
        self.assertEqual(what_of(mean_value, SAME, 10), "program")

    def test_three_parameters(self):
        program = read_term("fn r : rows 3. fn s : rows 3. fn t : rows 3. row i of 3. if i = 0 then t[0] else 1:3")
        self.assertEqual(greatest_value(program, 2), ((1, 4), (3, 4)))
        self.assertEqual(area(program, 2), ((-2, 1), (2, 1)))

    def test_values_of_rows_without_1(self):
        # Entry 1 is left out of the mean, however often it would be asked further.
        program = read_term("fn r : rows 3. row i of 3. if count(r[0]) = 1 then 2:3 else if count(r[i + 1]) = 1 then 2:3 else 0:3")
        self.assertEqual(mean_value(program, 2), (-3, 4))
        self.assertEqual(greatest_value(program, 2), ((1, 2), (1, 1)))


def shifted(p, q):
    """x and p / q halved: rising, 0 at -p / q."""
    return plainly_named(("fn", "z", ROWS, ("call", ("call", average_term(), ("var", "z")),
                                            ("call", constant_term(row_of(p, q)), ("var", "z")))))


def root_by(program, n, most):
    """The digits by the words of [97]; the number of the digit that is not settled."""
    def sign(x, many):
        total = sum_of(result(program, (row_of(x.numerator, x.denominator),), many))
        return 1 if total > 1 else -1 if total < -1 else 0

    def settled(x, y):
        for many in range(1, most + 1):
            if sign(x, many) or sign(y, many):
                return sign(x, many) or sign(y, many)
        return None
    c, w, digits = Fraction(0), Fraction(1), ()
    for i in range(n):
        first = settled(c - w / 2, c)
        if first is None:
            return i
        if first == 1:
            digits, c = digits + (0,), c - w / 2
        else:
            second = settled(c, c + w / 2)
            if second is None:
                return i
            digits, c = digits + ((1,) if second == 1 else (2,)), c if second == 1 else c + w / 2
        w /= 2
    return digits


class RootTest(unittest.TestCase):
    def check(self, program, n, most):
        wanted = root_by(program, n, most)
        if isinstance(wanted, int):
            self.assertEqual(told_by(root, program, n, most), ("NoSign", wanted))
            return None
        self.assertEqual(root(program, n, most), wanted)
        return wanted

    def test_roots(self):
        told = []
        for p, q in ((0, 1), (1, 1), (-1, 1), (1, 2), (-1, 2), (1, 3), (-2, 3), (1, 5), (3, 4)):
            for n, most in itertools.product((1, 2), (1, 2, 3)):
                digits = self.check(shifted(p, q), n, most)
                if digits is not None:
                    z, total = Fraction(-p, q), sum_of(digits)
                    self.assertLessEqual(Fraction(total - 1, 2 ** n), z)
                    self.assertLessEqual(z, Fraction(total + 1, 2 ** n))
                told.append(digits)
        self.assertGreater(sum(digits is not None for digits in told), 10)
        self.assertGreater(sum(digits is None for digits in told), 10)

    def test_the_number_itself(self):
        for n, most in itertools.product(range(1, 6), range(1, 6)):
            self.check(SAME, n, most)
        self.assertEqual(root(SAME, 3, 5), (1, 1, 1))
        self.assertEqual([told_by(root, SAME, 3, most) for most in (1, 2, 3)], [("NoSign", 0), ("NoSign", 1), ("NoSign", 2)])

    def test_edges(self):
        # 0 at the ends; and a program of few places, with n and most at 12.
        coarse = read_term("fn r : rows 3. row i of 3. if i < 2 then r[i] else 1:3")
        step = read_term("fn r : rows 3. row i of 3. r[0]")
        for program in (coarse, step, halved_term(), negated_term(), constant_term(row_of(1, 1)), constant_term(row_of(-1, 1)),
                        constant_term(((), (1,)))):
            for n, most in ((1, 1), (1, 2), (12, 3), (2, 4), (5, 5)):
                self.check(program, n, most)
        for program in (coarse, step, constant_term(row_of(1, 1)), constant_term(row_of(-1, 1)), constant_term(row_of(1, 3))):
            for n, most in ((1, 12), (12, 12), (12, 1)):
                self.check(program, n, most)
        self.assertEqual(root(constant_term(row_of(1, 1)), 12, 12), (0,) * 12)
        self.assertEqual(root(constant_term(row_of(-1, 1)), 12, 12), (2,) * 12)
        self.assertEqual(told_by(root, constant_term(((), (1,))), 12, 12), ("NoSign", 0))

    def test_random_programs(self):
        for seed in range(60):
            program = random_program(seed, 1, 4, 4, 4)
            for n, most in ((3, 1), (3, 2), (4, 4)):
                self.check(program, n, most)

    def test_not_small(self):
        self.assertEqual(what_of(root, SAME, 3, 9), "program")
        self.assertEqual(value_of(row_of(-5, 8)), (-5, 8))


if __name__ == "__main__":
    unittest.main()
