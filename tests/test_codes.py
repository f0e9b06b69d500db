"""DOC.md part L, [84] to [90], and the heading allendless/codes.py."""

import itertools
import random
import unittest
from fractions import Fraction

from allendless.codes import (
    address_index, coder, decoder, elements_count, found, index_address, is_address, is_even, is_near, is_searchable, over,
    width_of)
from allendless.judging import kind_of
from allendless.kinds import free_names, plainly_named
from allendless.plain import run_told, value_of
from allendless.quantify import can_hold, holds
from allendless.reader import read_kind, read_term
from allendless.sameness import same
from allendless.shares import shares_of
from allendless.ways import ways
from tests import simple
from tests.test_quantify import BIG
from tests.wrong import told_by, what_of

TOP = 10 ** 18 - 1
NUM = ("num",)
BOUND = 10 ** 9


def to(kind):
    return ("to", NUM, kind)


def both(kind, other):
    return ("both", kind, other)


def few(m):
    return ("few", m)


def rows(m):
    return ("rows", m)


def random_kind(rng, depth):
    word = rng.choice(("few", "rows", "both", "to", "to") if depth > 1 else ("few", "rows"))
    if word == "few":
        return few(rng.randrange(1, 10))
    if word == "rows":
        return rows(rng.randrange(2, 10))
    if word == "both":
        return both(random_kind(rng, depth - 1), random_kind(rng, depth - 1))
    return to(random_kind(rng, depth - 1))


def deep(kind, many, word="to"):
    for _ in range(many):
        kind = to(kind) if word == "to" else both(few(2), kind)
    return kind


def join(a, b):
    return (a + b) * (a + b + 1) // 2 + b if a + b < BOUND else TOP


def index_of(kind, address):
    """The index by the words of [85]."""
    if kind[0] == "few":
        return 0
    if kind[0] == "rows":
        return address[0]
    if kind[0] == "both":
        return min(2 * index_of(kind[1 + address[0]], address[1:]) + address[0], TOP)
    return join(address[0], index_of(kind[2], address[1:]))


def random_address(rng, kind, most):
    if kind[0] == "few":
        return ()
    if kind[0] == "rows":
        return (rng.randrange(most),)
    if kind[0] == "both":
        number = rng.randrange(2)
        return (number,) + random_address(rng, kind[1 + number], most)
    return (rng.randrange(most),) + random_address(rng, kind[2], most)


def size_there(kind, address):
    """The m of the answers at an address."""
    if kind[0] in ("few", "rows"):
        return kind[1]
    return size_there(kind[1 + address[0]] if kind[0] == "both" else kind[2], address[1:])


def asked(kind, term, address):
    """The term of the answer of a term at an address, as a number."""
    if kind[0] == "few":
        return ("count", term)
    if kind[0] == "rows":
        return ("count", ("at", term, ("number", address[0])))
    if kind[0] == "both":
        return asked(kind[1 + address[0]], ("second" if address[0] else "first", term), address[1:])
    return asked(kind[2], ("call", term, ("number", address[0])), address[1:])


def some_term(kind, numbers=(), names=None):
    """A closed term of a kind, its answers being sums of what stands in its address times some numbers."""
    names = names or itertools.count()
    total = ("number", 1)
    for number, factor in zip(numbers, itertools.cycle((1, 2, 3, 5))):
        total = ("prim", "add", (total, ("prim", "times", (number, ("number", factor)))))
    if kind[0] == "few":
        return ("as", kind[1], total)
    name = f"x{next(names)}"
    if kind[0] == "rows":
        return ("row", name, kind[1], ("as", kind[1], ("prim", "add", (total, ("var", name)))))
    if kind[0] == "both":
        return ("pair", some_term(kind[1], numbers + (("number", 0),), names),
                some_term(kind[2], numbers + (("number", 1),), names))
    return ("fn", name, NUM, some_term(kind[2], numbers + (("var", name),), names))


class Need(Exception):
    """An answer is needed that is not known."""

    def __init__(self, address, size):
        super().__init__(address)
        self.address = address
        self.size = size


class AnswerRow:
    def __init__(self, address, answer):
        self.address = address
        self.answer = answer

    def entry(self, i):
        return self.answer(self.address + (i,))


def element_of(kind, address, answer):
    """What is of a kind, told by its answers."""
    if kind[0] == "few":
        return answer(address)
    if kind[0] == "rows":
        return AnswerRow(address, answer)
    if kind[0] == "both":
        return (element_of(kind[1], address + (0,), answer), element_of(kind[2], address + (1,), answer))
    return lambda n: element_of(kind[2], address + (n,), answer)


def all_ends(kind, name, term, env):
    """All ends (answers, value) of the term, going through all answers at the addresses that are looked at."""
    ends = []

    def answer(known):
        def tell(address):
            if address not in known:
                raise Need(address, size_there(kind, address))
            return known[address]
        return tell

    def go(known):
        try:
            value = simple.SimpleRun().work(term, {**env, name: element_of(kind, (), answer(known))})
        except Need as need:
            for digit in range(need.size):
                go({**known, need.address: digit})
            return
        ends.append((known, value))
    go({})
    return ends


class KindTest(unittest.TestCase):
    def test_searchable(self):
        for kind in (few(1), few(9), rows(2), rows(9), to(few(2)), to(rows(3)), to(to(rows(2))), both(few(2), to(rows(3))),
                     to(both(rows(2), rows(9))), deep(rows(2), 5), deep(few(2), 5, "both"), both(deep(few(2), 4), few(1))):
            self.assertIs(is_searchable(kind), True, kind)
        for kind in (NUM, ("to", rows(2), few(2)), ("to", few(2), few(2)), ("to", NUM, NUM), both(few(2), NUM), both(NUM, few(2)),
                     to(("to", rows(2), few(2))), deep(rows(2), 6), deep(few(2), 6, "both"), both(deep(few(2), 5), few(1)),
                     both(few(1), deep(few(2), 5)), ("to", both(NUM, NUM), few(2)), deep(NUM, 3), ("to", to(few(2)), few(2))):
            self.assertIs(is_searchable(kind), False, kind)
        self.assertIs(is_searchable(deep(few(2), 3000)), False)
        for value in (few(10), few(0), rows(1), rows(True), both(few(2), few(10)), to(rows(10)), ("few",), ("both", few(2)), None, "few", ()):
            self.assertIs(is_searchable(value), False, value)

    def test_not_searchable(self):
        for kind in (NUM, ("to", rows(2), few(2)), both(few(2), NUM), deep(rows(2), 6), deep(NUM, 2), to(both(few(2), ("to", few(2), few(2)))),
                     both(deep(few(2), 5), few(1))):
            told = ("NotSearchable", kind)
            self.assertEqual(told_by(decoder, kind), told)
            self.assertEqual(told_by(coder, kind), told)
            self.assertEqual(told_by(over, "some", kind, "x", ("digit", 2, 1)), told)
            self.assertEqual(told_by(found, kind, "x", ("digit", 2, 1)), told)
            self.assertEqual(told_by(is_near, kind, "x", ("digit", 2, 1)), told)
            # Ahead of what a program raises, and of other names that stand free.
            self.assertEqual(told_by(is_near, kind, "x", read_term(BIG)), told)
            self.assertEqual(told_by(is_near, kind, "x", ("var", "y")), told)

    def test_width(self):
        for kind, width, even in (
                (few(1), 2, True), (few(2), 2, True), (few(9), 9, True), (rows(3), 3, True), (both(few(2), to(rows(3))), 6, True),
                (both(few(5), few(7)), 7, False), (both(rows(4), both(few(8), few(2))), 8, True), (both(few(4), few(6)), 6, False),
                (to(both(rows(2), both(rows(3), few(1)))), 6, True), (both(few(2), few(9)), 9, False), (both(rows(3), few(9)), 9, True),
                (both(few(4), few(3)), 4, False), (both(few(1), few(1)), 2, True), (both(few(1), few(5)), 5, True)):
            self.assertEqual(width_of(kind), width, kind)
            self.assertIs(is_even(kind), even, kind)
        for a, b, c in itertools.product(range(1, 10), repeat=3):
            kind = both(few(a), both(few(b), to(few(c))))
            fine = [m for m in range(2, 10) if m % a == 0 and m % b == 0 and m % c == 0]
            self.assertEqual(width_of(kind), fine[0] if fine else max(a, b, c, 2))
            self.assertIs(is_even(kind), bool(fine))

    def test_count(self):
        self.assertEqual(elements_count(few(7)), 7)
        self.assertEqual(elements_count(both(few(2), both(few(3), few(1)))), 6)
        self.assertEqual(elements_count(both(both(few(9), few(9)), both(few(9), few(9)))), 6561)
        for kind in (rows(2), to(few(2)), both(few(2), rows(2)), to(few(1)), both(to(few(2)), few(2))):
            self.assertIsNone(elements_count(kind))


class AddressTest(unittest.TestCase):
    def test_addresses(self):
        kind = both(few(2), to(rows(3)))
        for address in ((0,), (1, 0, 0), (1, 4, 2), (1, TOP, TOP)):
            self.assertIs(is_address(kind, address), True)
        for address in ((), (1,), (2,), (0, 0), (1, 4), (1, 4, 2, 0), (1, -1, 0), (1, 0, TOP + 1), (True, 4, 2), (False,), (1, True, 2),
                        (1, 4, False), [0], 0, None, "0", (1, "4", 2), (1, (4,), 2), (0, 0, 0), (-1,)):
            self.assertIs(is_address(kind, address), False, address)
        self.assertIs(is_address(few(3), ()), True)
        self.assertIs(is_address(few(3), (0,)), False)
        self.assertIs(is_address(rows(3), (TOP,)), True)
        self.assertIs(is_address(rows(3), ()), False)
        self.assertIs(is_address(rows(3), (0, 0)), False)
        self.assertIs(is_address(to(few(2)), (5,)), True)
        self.assertIs(is_address(to(few(2)), (5, 0)), False)

    def test_example(self):
        kind = both(few(2), to(rows(3)))
        self.assertEqual(width_of(kind), 6)
        self.assertEqual(address_index(kind, (1, 4, 2)), 47)
        self.assertEqual(index_address(kind, 47), (1, 4, 2))

    def test_indices(self):
        rng = random.Random(1)
        for seed in range(150):
            kind = random_kind(rng, 1 + seed % 6)
            self.assertTrue(is_searchable(kind))
            seen = 0
            for index in range(200):
                address = index_address(kind, index)
                if address is not None:
                    self.assertIs(is_address(kind, address), True)
                    self.assertEqual(address_index(kind, address), index)
                    self.assertEqual(index_of(kind, address), index)
                    seen += 1
            met = {}
            for most in (3, 3, 3, 50, 10 ** 5, 2 * BOUND, TOP):
                for _ in range(8):
                    address = random_address(rng, kind, most)
                    index = address_index(kind, address)
                    self.assertEqual(index, index_of(kind, address))
                    self.assertLessEqual(index, TOP)
                    # Addresses that are not far have unlike indices.
                    if index < TOP:
                        self.assertEqual(met.setdefault(index, address), address)
                        self.assertEqual(index_address(kind, index), address)
            if kind[0] == "rows":
                self.assertEqual(seen, 200)

    def test_indices_without_address(self):
        self.assertEqual([index_address(few(2), i) for i in range(3)], [(), None, None])
        self.assertEqual([index_address(both(few(2), few(3)), i) for i in range(4)], [(0,), (1,), None, None])
        # join(n, 0) alone: 0, 1, 3, 6, ..
        self.assertEqual([index_address(to(few(2)), i) for i in range(7)], [(0,), (1,), None, (2,), None, None, (3,)])
        self.assertEqual([index_address(to(rows(2)), i) for i in range(6)], [(0, 0), (1, 0), (0, 1), (2, 0), (1, 1), (0, 2)])

    def test_far_addresses(self):
        kind = to(rows(2))
        # a + b at 10 ** 9 - 1 and at 10 ** 9.
        for a in (0, 1, 5, BOUND - 1):
            b = BOUND - 1 - a
            index = (BOUND - 1) * BOUND // 2 + b
            self.assertEqual(address_index(kind, (a, b)), index)
            self.assertEqual(index_address(kind, index), (a, b))
            self.assertEqual(address_index(kind, (a + 1, b)), TOP)
            self.assertEqual(address_index(kind, (a, b + 1)), TOP)
        last = (BOUND - 1) * BOUND // 2 + BOUND - 1
        self.assertEqual(index_address(kind, last), (0, BOUND - 1))
        self.assertIsNone(index_address(kind, last + 1))
        self.assertIsNone(index_address(kind, TOP - 1))
        self.assertIsNone(index_address(kind, TOP))
        self.assertEqual(index_address(rows(2), TOP - 1), (TOP - 1,))
        self.assertIsNone(index_address(rows(2), TOP))
        self.assertEqual(address_index(rows(2), (TOP,)), TOP)
        pair = both(rows(2), rows(2))
        half = (TOP - 1) // 2
        self.assertEqual(address_index(pair, (0, half)), TOP - 1)
        self.assertEqual(index_address(pair, TOP - 1), (0, half))
        # An index that is TOP is far, whether it was cut or not.
        self.assertEqual(address_index(pair, (1, half)), TOP)
        self.assertEqual(address_index(pair, (0, half + 1)), TOP)
        self.assertEqual(address_index(pair, (1, half - 1)), TOP - 2)
        self.assertEqual(index_address(pair, TOP - 2), (1, half - 1))
        self.assertEqual(address_index(both(few(2), kind), (1, BOUND, 0)), TOP)


class CodeTest(unittest.TestCase):
    def test_kinds_of_terms(self):
        rng = random.Random(2)
        for seed in range(120):
            kind = random_kind(rng, 1 + seed % 6)
            self.assertEqual(kind_of(decoder(kind), ()), ("to", rows(width_of(kind)), kind))
            self.assertEqual(kind_of(coder(kind), ()), ("to", kind, rows(width_of(kind))))
        kind = both(both(both(few(2), rows(2)), both(to(few(2)), rows(3))), both(both(few(4), to(to(few(2)))), few(8)))
        self.assertEqual(kind_of(coder(kind), ()), ("to", kind, rows(width_of(kind))))

    def test_decoder(self):
        # The answer at an address is the rest of the entry at its index, and no other entry is read.
        rng = random.Random(3)
        for seed in range(120):
            kind = random_kind(rng, 1 + seed % 6)
            width = width_of(kind)
            for most in (3, 3, 40, BOUND):
                address = random_address(rng, kind, most)
                read = asked(kind, ("call", decoder(kind), ("var", "r")), address)
                row = tuple(rng.randrange(width) for _ in range(13))
                value, places, _ = run_told(("fn", "r", rows(width), read), (((), row),))
                index = index_of(kind, address)
                self.assertEqual(value, row[index % 13] % size_there(kind, address))
                self.assertIn((index, 0), places)
                if not pairs_of_few_there(kind, address):
                    self.assertEqual(places, ((index, 0),))

    def test_element_of_the_code(self):
        rng = random.Random(4)
        for seed in range(60):
            kind = random_kind(rng, 1 + seed % 6)
            term = some_term(kind)
            self.assertEqual(kind_of(term, ()), kind)
            there = ("call", decoder(kind), ("call", coder(kind), term))
            for most in (2, 3, 5, 10 ** 4, 10 ** 6):
                address = random_address(rng, kind, most)
                if index_of(kind, address) < TOP:
                    self.assertEqual(value_of(asked(kind, there, address))[0], value_of(asked(kind, term, address))[0], address)

    def test_coder(self):
        rng = random.Random(5)
        for seed in range(60):
            kind = random_kind(rng, 1 + seed % 4)
            term = some_term(kind)
            code = ("call", coder(kind), term)
            indices = list(range(12)) + [35, 36, 2079, 2080, 10 ** 6, 10 ** 12, TOP - 1, TOP]
            for last in ((BOUND - 1) * BOUND // 2, (BOUND - 1) * BOUND // 2 + BOUND - 1):
                indices += [last - 1, last, last + 1]
            indices += [rng.randrange(TOP) for _ in range(4)] + [rng.randrange(5 * 10 ** 17) for _ in range(4)]
            for index in indices:
                address = index_address(kind, index)
                wanted = 0 if address is None else value_of(asked(kind, term, address))[0]
                self.assertEqual(value_of(("at", code, ("number", index)))[0], wanted, (kind, index))

    def test_codes_of_far_answers_are_noughts(self):
        ones = read_term("row x of 2. 1:2")
        code = ("call", coder(rows(2)), ones)
        self.assertEqual(value_of(("at", code, ("number", TOP)))[0], 0)
        self.assertEqual(value_of(("at", code, ("number", TOP - 1)))[0], 1)
        pair = ("call", coder(both(rows(2), rows(2))), ("pair", ones, plainly_named(ones)))
        self.assertEqual(value_of(("at", pair, ("number", TOP)))[0], 0)
        self.assertEqual(value_of(("at", pair, ("number", TOP - 1)))[0], 1)


def pairs_of_few_there(kind, address):
    """Whether the answer stands in a pair of which another part is worked out with it."""
    if kind[0] in ("few", "rows"):
        return False
    if kind[0] == "to":
        return pairs_of_few_there(kind[2], address[1:])
    return has_answers(kind[2 - address[0]]) or pairs_of_few_there(kind[1 + address[0]], address[1:])


def has_answers(kind):
    return kind[0] == "few" or (kind[0] == "both" and (has_answers(kind[1]) or has_answers(kind[2])))


# Kinds, terms of few 2 over what is of them, named g, and terms of num.
CASES = (
    ("few 3", "count(g) = 2", "count(g) * 2"),
    ("few 1", "count(g) = 0", "count(g) + 4"),
    ("rows 3", "if g[2] = 0 then 1:2 else as 2 (count(g[1]))", "count(g[0]) + count(g[count(g[0])]) * 3"),
    ("few 2 & few 3", "count(first(g)) = count(second(g))", "count(first(g)) * 3 + count(second(g))"),
    ("few 2 & rows 3", "count(second(g)[count(first(g))]) < 2", "count(second(g)[count(first(g))]) + count(first(g))"),
    ("num -> few 3", "count(g(0)) < count(g(count(g(1))))", "count(g(g0)) + count(g(3)) * count(g(0))"),
    ("num -> rows 2", "if g(1)[0] then g(count(g(0)[2]))[1] else 0:2", "count(g(0)[0]) + 2 * count(g(5)[count(g(0)[0])])"),
    ("num -> num -> few 2", "if g(1)(2) then g(2)(1) else 1:2", "count(g(0)(count(g(1)(1)))) + count(g(0)(1)) + 1"),
    ("(num -> few 2) & rows 2", "count(first(g)(3)) < count(second(g)[3])", "count(first(g)(0)) + count(second(g)[0])"),
)


def few_of(text):
    """A text with `=` and `<` between digits read as between their counts."""
    return text.replace("g[2] = 0", "count(g[2]) = 0").replace("g0", "count(g(0))")


class QuestionTest(unittest.TestCase):
    def test_over(self):
        for text, truth, number in CASES:
            kind = read_kind(text)
            self.check_truth(kind, read_term(few_of(truth)), {})
            self.check_number(kind, read_term(few_of(number)), {})

    def check_truth(self, kind, term, env):
        values = [value for _, value in all_ends(kind, "g", term, env)]
        self.assertEqual(value_of(over("some", kind, "g", term))[0], int(1 in values))
        self.assertEqual(value_of(over("every", kind, "g", term))[0], int(0 not in values))
        self.assertEqual(kind_of(over("some", kind, "g", term), ()), few(2))
        self.assertIs(is_near(kind, "g", term), True)
        there = found(kind, "g", term)
        self.assertEqual(kind_of(there, ()), kind)
        self.assertEqual(plainly_named(there), there)
        # What was found is put in for the name.
        put = ("call", ("fn", "g", kind, term), there)
        self.assertEqual(value_of(put)[0], int(1 in values))

    def check_number(self, kind, term, env):
        values = [value for _, value in all_ends(kind, "g", term, env)]
        self.assertEqual(value_of(over("least", kind, "g", term))[0], min(values))
        self.assertEqual(value_of(over("greatest", kind, "g", term))[0], max(values))
        self.assertIs(is_near(kind, "g", term), True)

    def test_nothing_is_found(self):
        for text, _, _ in CASES:
            kind = read_kind(text)
            term = ("digit", 2, 0)
            self.assertEqual(kind_of(found(kind, "g", term), ()), kind)
            self.assertEqual(value_of(over("some", kind, "g", term))[0], 0)
            self.assertEqual(value_of(over("every", kind, "g", ("digit", 2, 1)))[0], 1)

    def test_example(self):
        # For every row of rows there is a row unlike its first one.
        kind = read_kind("num -> rows 2")
        term = read_term("some r of 2. if count(r[0]) = count(g(0)[0]) then 0:2 else 1:2")
        made = over("every", kind, "g", term)
        self.assertEqual(value_of(made)[0], 1)
        self.assertIs(holds(made), True)
        self.assertIs(can_hold(over("some", kind, "g", read_term("every r of 2. count(r[0]) = count(g(0)[0])"))), False)
        self.assertEqual(told_by(over, "some", ("to", rows(2), few(2)), "g", term), ("NotSearchable", ("to", rows(2), few(2))))

    def test_further_names(self):
        # Other names stand free in the term, also such as the package makes itself.
        for other in ("s", "r", "rr", "v0", "n1"):
            kind = read_kind("num -> few 3")
            term = read_term(f"if count({other}[0]) < count(g(count({other}[1]))) then 1:2 else {other}[2]")
            number = read_term(f"count(g(count({other}[0]))) * 2 + count({other}[1])")
            for word, held in (("some", term), ("every", term), ("least", number), ("greatest", number)):
                made = over(word, kind, "g", held)
                self.assertEqual(free_names(made), (other,))
                self.assertEqual(plainly_named(made), made)
                program = ("fn", other, rows(2), made)
                for digits in itertools.product(range(2), repeat=3):
                    env = {other: simple.Found({i: digit for i, digit in enumerate(digits)})}
                    values = [value for _, value in all_ends(kind, "g", held, env)]
                    wanted = {"some": int(1 in values), "every": int(0 not in values), "least": min(values), "greatest": max(values)}
                    self.assertEqual(run_told(program, ((digits, (0,)),))[0], wanted[word])
            self.assertIs(is_near(kind, "g", term), False)
            there = found(kind, "g", term)
            self.assertEqual(free_names(there), (other,))
            self.assertEqual(kind_of(there, ((other, rows(2)),)), kind)
            put = ("fn", other, rows(2), ("call", ("fn", "g", kind, term), there))
            for digits in itertools.product(range(2), repeat=3):
                env = {other: simple.Found({i: digit for i, digit in enumerate(digits)})}
                values = [value for _, value in all_ends(kind, "g", term, env)]
                self.assertEqual(run_told(put, ((digits, (0,)),))[0], int(1 in values))

    def test_names_like_those_of_rows(self):
        for name in ("r", "rr", "v0", "v1", "n1"):
            kind = read_kind("num -> rows 2")
            term = read_term(f"if {name}(1)[0] then {name}(0)[1] else every v0 of 2. {name}(count(v0[0]))[2]" if name != "v0" else
                             "if v0(1)[0] then v0(0)[1] else every v1 of 2. v0(count(v1[0]))[2]")
            values = [value for _, value in all_ends(kind, name, read_term(
                f"if {name}(1)[0] then {name}(0)[1] else if {name}(0)[2] then {name}(1)[2] else 0:2"), {})]
            self.assertEqual(value_of(over("some", kind, name, term))[0], int(1 in values))
            self.assertEqual(value_of(over("every", kind, name, term))[0], int(0 not in values))

    def test_two_questions(self):
        # over in over: for every g there is an h that is unlike it at 0 and like it at 1.
        kind = read_kind("num -> few 2")
        inner = over("some", kind, "h", read_term("if h(0) then (if g(0) then 0:2 else count(h(1)) = count(g(1))) "
                                                  "else (if g(0) then count(h(1)) = count(g(1)) else 0:2)"))
        self.assertEqual(value_of(over("every", kind, "g", inner))[0], 1)
        self.assertEqual(value_of(over("some", kind, "g", read_term("if g(0) then (if g(0) then 0:2 else 1:2) else 0:2")))[0], 0)

    def test_near(self):
        kind = to(rows(2))
        self.assertIs(is_near(kind, "g", read_term(f"g({BOUND - 1})[0]")), True)
        self.assertIs(is_near(kind, "g", read_term(f"g({BOUND})[0]")), False)
        self.assertIs(is_near(kind, "g", read_term(f"g(0)[{BOUND - 1}]")), True)
        self.assertIs(is_near(kind, "g", read_term(f"if g(0)[0] then g(1)[{BOUND - 1}] else 0:2")), False)
        self.assertIs(is_near(rows(3), "g", read_term(f"g[{TOP - 1}]")), True)
        self.assertIs(is_near(rows(3), "g", read_term(f"g[{TOP}]")), False)
        # Not of a plain kind; other names stand free; no answer is asked.
        self.assertIs(is_near(kind, "g", read_term("g(0)")), False)
        self.assertIs(is_near(kind, "g", read_term("g")), False)
        self.assertIs(is_near(kind, "g", read_term("fn x : num. g(x)[0]")), False)
        self.assertIs(is_near(kind, "g", read_term("(g(0)[0], (count(g(1)[1]), 5))")), True)
        self.assertIs(is_near(kind, "g", read_term("g(0)[x]")), False)
        self.assertIs(is_near(kind, "g", read_term("7")), True)
        self.assertIs(is_near(kind, "g", read_term("some s of 2. g(0)[count(s[0])]")), True)
        self.assertIn(what_of(is_near, kind, "g", read_term(f"{BIG} + count(g(0)[0])")), ("program", None))

    def test_answers_that_are_asked(self):
        # Two that have the same answers at all addresses that are not far are alike for what is near.
        kind = read_kind("num -> few 2")
        tree = ways(("fn", "r", rows(2), ("call", ("fn", "g", kind, read_term("g(count(g(3)))")), ("call", decoder(kind), ("var", "r")))))
        wanted = ("ask", (6, 0), (("ask", (0, 0), (("end", 0), ("end", 1))), ("ask", (1, 0), (("end", 0), ("end", 1)))))
        self.assertTrue(same((2,), tree, wanted))


class ShareTest(unittest.TestCase):
    def share_of(self, kind, term):
        """The share of the rows at which a term gives 1."""
        row = ("call", decoder(kind), ("var", "r"))
        tree = ways(("fn", "r", rows(width_of(kind)), ("call", ("fn", "g", kind, term), row)))
        return Fraction(*dict(shares_of((width_of(kind),), tree)).get(1, (0, 1)))

    def test_even_kinds(self):
        for text, truth, _ in CASES:
            kind = read_kind(text)
            self.assertIs(is_even(kind), True)
            term = read_term(few_of(truth))
            wanted = Fraction(0)
            for known, value in all_ends(kind, "g", term, {}):
                if value == 1:
                    share = Fraction(1)
                    for address in known:
                        share /= size_there(kind, address)
                    wanted += share
            self.assertEqual(self.share_of(kind, term), wanted)

    def test_a_kind_that_is_not_even(self):
        kind = both(few(5), few(7))
        self.assertIs(is_even(kind), False)
        self.assertEqual(self.share_of(kind, read_term("count(first(g)) = 0")), Fraction(2, 7))
        self.assertEqual(self.share_of(kind, read_term("count(first(g)) = 2")), Fraction(1, 7))
        self.assertEqual(self.share_of(kind, read_term("count(second(g)) = 0")), Fraction(1, 7))


if __name__ == "__main__":
    unittest.main()
