"""DOC.md [19] to [28], [39], [71], [72], [82] of contests, and the heading allendless/plain.py."""

import itertools
import unittest

from allendless.kinds import with_children
from allendless.plain import run_known, run_told, value_of
from allendless.reader import read_term
from allendless.trees import value_on
from tests import simple
from tests.making import Maker
from tests.wrong import what_of

TOP = 10 ** 18 - 1
ONE = ("number", 1)
P = read_term("fn r : rows 2. count(r[0]) + count(r[count(r[0])])")


def value(text):
    return value_of(read_term(text))


def fn(text, menu=2):
    return read_term(f"fn r : rows {menu}. {text}")


class FormsTest(unittest.TestCase):
    def test_values_and_steps(self):
        for text, wanted in (
                ("7", (7, 1)), ("2:3", (2, 1)), ("1 + 2", (3, 3)), ("as 3 (8)", (2, 2)), ("count(2:3)", (2, 2)),
                ("if 1:2 then 4 else 5 + 6", (4, 3)), ("if 0:2 then 4 else 5 + 6", (11, 5)), ("(fn x : num. x + x)(4)", (8, 6)),
                ("(fn x : num. 3)(4 + 5)", (3, 6)), ("(1, 2 + 3)", ((1, 5), 5)), ("first((1, 2))", (1, 4)), ("second((1, 2))", (2, 4)),
                ("((1, 2), (3, 0:2))", (((1, 2), (3, 0)), 7)), ("first(second((1, (2, 3))))", (2, 7)),
                ("(row x of 3. as 3 (x + 1))[4]", (2, 7)), ("(row x of 3. as 3 (x))[TOP]".replace("TOP", str(TOP)), (TOP % 3, 5)),
                ("repeat(3, fn x : num. x + 2, 1)", (7, 13)), ("repeat(0, fn x : num. x + 2, 1)", (1, 4)),
                ("some r of 2. r[0]", (1, 1 + 3 + 3 + 3)), ("every r of 2. r[0]", (0, 10)), ("every r of 2. 1:2", (1, 2)),
                ("some r of 2. 0:2", (0, 2)), ("least r of 3. count(r[0]) + 1", (1, 1 + 5 + 3 * 6)),
                ("greatest r of 3. count(r[0]) + 1", (3, 24)), ("share r of 2 times (10). r[0]", (5, 11)),
                ("(find r of 2. r[1])[1]", (1, 1 + 10 + 1)), ("contest r of 2 by x (0:2). 5", (5, 2)),
                ("contest r of 2 by x (0:2). count(r[0])", (1, 1 + 4 + 4 + 4 + 1)),
                ("contest r of 2 by x (1:2). count(r[0])", (0, 14))):
            self.assertEqual(value(text), wanted, text)

    def test_operations(self):
        around = (0, 1, 2, 3, 7, TOP - 1, TOP)
        for a in around:
            for b in around:
                for sign, wanted in (
                        ("+", min(a + b, TOP)), ("-", a - b if a >= b else 0), ("*", min(a * b, TOP)), ("/", a // b if b else 0),
                        ("|", a % b if b else 0), ("<", 1 if a < b else 0), ("=", 1 if a == b else 0)):
                    self.assertEqual(value(f"{a} {sign} {b}"), (wanted, 3), (a, sign, b))
            for m in range(1, 10):
                self.assertEqual(value(f"as {m} ({a})"), (a % m, 2))
        self.assertEqual(value(f"{10 ** 9} * {10 ** 9}"), (TOP, 3))
        self.assertEqual(value(f"{10 ** 9} * {10 ** 9 - 1}"), (10 ** 18 - 10 ** 9, 3))

    def test_order_of_parts(self):
        # Each part reads a place of its own; the places come in the order in which parts are worked out.
        for text, count in (
                ("count(r[0]) + count(r[1])", 2), ("if r[0] then r[1] else r[1]", 2), ("(r[0], r[1])", 2),
                ("(if r[0] then fn x : num. r[2] else fn y : num. r[2])(count(r[1]))", 3),
                ("repeat(count(r[0]), if r[1] then fn x : num. x + count(r[3]) else fn y : num. y, count(r[2]))", 4),
                ("(if r[0] then r else r)[count(r[1])]", 2), ("first((r[0], r[1]))", 2), ("second((r[0], r[1]))", 2),
                ("share s of 2 times (count(r[0])). r[1]", 2), ("contest s of 2 by x (r[1]). count(s[0]) + count(r[0])", 2)):
            ones = (((), (1,)),)
            _, read, _ = run_told(fn(text), ones)
            self.assertEqual(read[:count], tuple((i, 0) for i in range(count)), text)

    def test_chosen_parts_alone(self):
        program = fn("if r[0] then r[1] else r[2]")
        self.assertEqual(run_told(program, (((0,), (1,)),)), (1, ((0, 0), (2, 0)), 7))
        self.assertEqual(run_told(program, (((1,), (0,)),)), (0, ((0, 0), (1, 0)), 7))

    def test_where_it_stops(self):
        for text, steps in (
                ("r[0]", 3), ("count(r[0])", 4), ("1 + count(r[0])", 6), ("count(r[0]) + 1", 5), ("as 2 (count(r[0]))", 5),
                ("if r[0] then 1 else 2", 4), ("if 1:2 then r[0] else 0:2", 5), ("if 0:2 then 0:2 else r[0]", 5),
                ("(fn x : num. 1)(count(r[0]))", 6), ("(fn x : num. r[x])(0)", 6), ("(if r[0] then fn x : num. x else fn y : num. y)(1)", 5),
                ("(r[0], 1)", 4), ("(1, r[0])", 5), ("first((1, r[0]))", 6), ("second((r[0], 1))", 5), ("repeat(count(r[0]), fn x : num. x, 1)", 5),
                ("repeat(1, if r[0] then fn x : num. x else fn y : num. y, 1)", 6), ("repeat(1, fn x : num. x, count(r[0]))", 7),
                ("repeat(2, fn x : num. x + count(r[x]), 0)", 4 + 6), ("(if r[0] then r else r)[0]", 5), ("r[0 + count(r[0])]", 8),
                ("(row x of 2. r[x])[0]", 6), ("some s of 2. r[0]", 4), ("every s of 2. s[count(r[0])]", 7),
                ("least s of 2. count(s[0]) + count(r[0])", 1 + 5 + 9), ("greatest s of 2. count(r[0])", 5),
                ("(find s of 2. r[0])[0]", 5), ("share s of 2 times (count(r[0])). s[1]", 5), ("share s of 2 times (1). r[0]", 5),
                ("contest s of 2 by x (r[0]). count(s[0])", 1 + 4 + 4 + 4 + 3), ("contest s of 2 by x (0:2). count(r[0])", 5)):
            self.assertEqual(run_known(fn(text), ()), ("stop", (0, 0), (), steps), text)

    def test_example(self):
        self.assertEqual(run_known(P, ()), ("stop", (0, 0), (), 5))
        self.assertEqual(run_known(P, (((0, 0), 0),)), ("value", 0, ((0, 0),), 12))
        self.assertEqual(run_known(P, (((0, 0), 1),)), ("stop", (1, 0), ((0, 0),), 12))
        self.assertEqual(run_known(P, (((0, 0), 1), ((1, 0), 1), ((7, 0), 0))), ("value", 2, ((0, 0), (1, 0)), 12))
        self.assertEqual(run_told(P, (((1,), (0,)),)), (1, ((0, 0), (1, 0)), 12))


class RowsTest(unittest.TestCase):
    def test_rows_of_all_sorts(self):
        self.assertEqual(run_told(fn("(r[5], r[%d])" % TOP), (((1, 1), (0, 1)),))[0], (1, (TOP - 2) % 2))
        self.assertEqual(run_known(fn("(r[5], r[6])"), (((5, 0), 1), ((6, 0), 0))), ("value", (1, 0), ((5, 0), (6, 0)), 7))
        # A found row has its entries, and 0 elsewhere; to read it makes no steps of its own.
        text = "(fn s : rows 3. (s[0], (s[2], s[%d])))(find t of 3. if t[2] = 1 then 1:2 else 0:2)" % TOP
        self.assertEqual(value(text.replace("t[2]", "count(t[2])"))[0], (0, (1, 0)))
        self.assertEqual(value("(find r of 2. r[1])[5]"), (0, 12))

    def test_the_least_found_row(self):
        for text, entries in (
                ("find r of 2. 1:2", (0, 0, 0)), ("find r of 2. 0:2", (0, 0, 0)), ("find r of 2. r[1]", (0, 1, 0)),
                ("find r of 2. if r[0] then r[2] else 0:2", (1, 0, 1)), ("find r of 3. if r[2] = 1 then 1:2 else r[0] = 1", (0, 0, 1)),
                ("find r of 3. if r[0] = 0 then r[1] = 2 else 1:2", (0, 2, 0)), ("find r of 3. if r[2] = 2 then r[1] = 1 else r[0] = 2", (0, 1, 2)),
                ("find r of 2. if r[1] then 1:2 else r[0]", (0, 1, 0)), ("find r of 2. if r[2] then r[0] else r[1]", (0, 1, 0)),
                ("find r of 3. count(r[0]) + count(r[1]) = 3", (1, 2, 0))):
            for index in ("0", "1", "2"):
                text = text.replace(f"r[{index}] =", f"count(r[{index}]) =")
            for i, entry in enumerate(entries):
                self.assertEqual(value(f"({text})[{i}]")[0], entry, text)

    def test_entries_are_worked_out_each_time(self):
        row = "(fn s : rows 2. count(s[1]) + count(s[1]))(row x of 2. as 2 (x + 1))"
        # The call, fn, row; add, and twice: count, at, s, 1, as, add, x, 1.
        self.assertEqual(value(row), (0, 3 + 1 + 2 * 8))
        program = fn("(fn s : rows 2. count(s[1]) + count(s[1]))(row x of 2. r[x])")
        self.assertEqual(run_told(program, (((), (1,)),)), (2, ((1, 0),), 3 + 1 + 2 * 7))

    def test_environments(self):
        # The function and the row keep the names of where they were met.
        self.assertEqual(value("(fn x : num. (fn f : num -> num. (fn y : num. f(y))(10))(fn z : num. x * z))(3)")[0], 30)
        text = "repeat(3, fn f : num -> num. fn x : num. f(x + 1) * 2, fn x0 : num. x0)(5)"
        self.assertEqual(value(text)[0], 64)
        self.assertEqual(value("repeat(3, fn s : rows 9. row x of 9. as 9 (count(s[x + 1]) + 1), row y of 9. as 9 (y))[2]")[0], 8)

    def test_names_of_functions_gone_through_again(self):
        text = "(fn f : num -> num. f(1) * 10 + f(2))(fn x : num. (fn y : num. x + y)(x))"
        self.assertEqual(value(text)[0], 24)


class RepeatTest(unittest.TestCase):
    def test_turns(self):
        for turns, made in ((0, 0), (1, 1), (59, 59), (60, 60), (61, 60), (1000, 60), (TOP, 60)):
            self.assertEqual(value(f"repeat({turns}, fn x : num. x + 1, 0)"), (made, 4 + 3 * made))
            self.assertEqual(value(f"repeat({turns}, fn x : few 2. as 2 (count(x) + 1), 0:2)"), (made % 2, 4 + 5 * made))

    def test_rows_on_rows(self):
        # 60 times 60 made rows, one on the other.
        inner = "repeat(60, fn s : rows 2. row i of 2. s[i], t)"
        text = f"(repeat(60, fn t : rows 2. {inner}, row j of 2. as 2 (j)))[1]"
        steps = value(text)[1]
        self.assertEqual(value(text)[0], 1)
        self.assertEqual(steps, 5 + 60 * (4 + 60) + 1 + 3600 * 3 + 2)

    def test_functions_on_functions(self):
        inner = "repeat(60, fn g : num -> num. fn x : num. g(x), f)"
        text = f"(repeat(60, fn f : num -> num. {inner}, fn y : num. y + 1))(1)"
        self.assertEqual(value(text), (2, 5 + 60 * (4 + 60) + 1 + 3600 * 3 + 3))

    def test_deep_terms(self):
        term = ONE
        for _ in range(4000):
            term = with_children(("prim", "add", (ONE, ONE)), (term, ONE))
        self.assertEqual(value_of(term), (4001, 8001))
        term = ("var", "x0")
        for number in range(2999, -1, -1):
            term = with_children(("call", ONE, ONE), (with_children(("fn", f"x{number}", ("num",), ONE), (term,)), ONE))
        self.assertEqual(value_of(term), (1, 9001))
        term = ONE
        for _ in range(4000):
            term = with_children(("first", ONE), (with_children(("pair", ONE, ONE), (term, ONE)),))
        self.assertEqual(value_of(term), (1, 12001))


class QuantifierTest(unittest.TestCase):
    def test_anew_with_each_digit(self):
        # r[0] stops (3 steps); 0: ends (5); 1: r[1] stops (6), 0 and 1 end (6 each).
        self.assertEqual(value("some r of 2. if r[0] then r[1] else 0:2"), (1, 1 + 4 + 5 + 7 + 7 + 7))

    def test_all_ends_are_gone_through(self):
        self.assertEqual(value("some r of 2. if r[0] then 1:2 else 1:2"), (1, 1 + 4 + 5 + 5))
        self.assertEqual(value("every r of 3. r[0] = 7".replace("r[0]", "count(r[0])")), (0, 1 + 5 + 3 * 6))

    def test_stops_at_a_row_from_outside(self):
        self.assertEqual(run_known(fn("some s of 2. if s[0] then r[0] else r[1]"), ()), ("stop", (1, 0), (), 1 + 4 + 4 + 3))
        self.assertEqual(run_known(fn("some s of 2. if s[0] then r[0] else r[1]"), (((1, 0), 0),)),
                         ("stop", (0, 0), ((1, 0),), 1 + 4 + 7 + 7))

    def test_a_quantifier_in_another_one(self):
        # The inner one stops at the outer row: all of the outer body is begun anew.
        # every: 1; some, same, count, at, r, 0: a stop; each time again: some, 9 steps up to the stop at s, 9 for each end.
        self.assertEqual(value("every r of 2. some s of 2. count(r[0]) = count(s[0])")[1], 1 + 6 + 2 * (1 + 9 + 9 + 9))
        self.assertEqual(value("some s of 2. every r of 2. count(r[0]) = count(s[0])")[0], 0)

    def test_in_a_made_row_and_in_a_function(self):
        row = "(row i of 2. some s of 2. if s[i] then r[i] else 0:2)"
        self.assertEqual(run_known(fn(f"{row}[3]"), ())[:2], ("stop", (3, 0)))
        self.assertEqual(run_told(fn(f"{row}[3]"), (((0, 0, 0), (1,)),))[:2], (1, ((3, 0),)))
        text = "(fn f : rows 2 -> few 2. every s of 2. f(s))(fn t : rows 2. if t[0] then r[1] else r[2])"
        self.assertEqual(run_known(fn(text), ())[:2], ("stop", (2, 0)))
        self.assertEqual(run_told(fn(text), (((), (1,)),))[:2], (1, ((2, 0), (1, 0))))
        text = "every r of 2. (fn f : rows 2 -> few 2. some s of 2. f(s))(fn t : rows 2. count(t[0]) = count(r[1]))"
        self.assertEqual(value(text), simple_value(text))
        self.assertEqual(value(text)[0], 1)

    def test_gone_through_again_while_its_row_waits(self):
        # The body asks the first row, then goes through the same quantifier again, by the function that it was handed.
        text = ("repeat(2, fn f : rows 2 -> few 2. fn t : rows 2. some s of 2. if s[0] then f(s) else f(t), "
                "fn u : rows 2. u[1])(row i of 2. 0:2)")
        self.assertEqual(value(text), simple_value(text))
        self.assertEqual(value(text)[0], 1)
        text = ("repeat(2, fn f : rows 3 -> num. fn t : rows 3. greatest s of 3. count(s[0]) + f(s) * 3 + count(t[1]), "
                "fn u : rows 3. count(u[0]) + count(u[1]))(row i of 3. 2:3)")
        self.assertEqual(value(text), simple_value(text))

    def test_shares(self):
        for text, wanted in (
                ("share r of 3 times (1000). count(r[0]) = 0", 333), ("share r of 3 times (1000). count(r[0]) < 2", 666),
                ("share r of 2 times (7). if r[0] then r[1] else 0:2", 1), ("share r of 2 times (8). if r[0] then r[1] else 0:2", 2),
                ("share r of 2 times (0). 1:2", 0), (f"share r of 2 times ({TOP}). 1:2", TOP), (f"share r of 9 times ({TOP}). count(r[0]) < 8", TOP * 8 // 9),
                ("share r of 2 times (100). 0:2", 0), ("share r of 2 times (3). if r[0] then 1:2 else if r[1] then r[2] else 0:2", 1),
                (f"share r of 2 times ({TOP} + 1). if r[0] then 1:2 else r[1]", TOP * 3 // 4)):
            self.assertEqual(value(text)[0], wanted, text)

    def test_the_number_of_a_share_comes_first(self):
        program = read_term("fn a : rows 2. fn b : rows 2. share r of 2 times (count(a[0])). b[0]")
        self.assertEqual(run_known(program, ()), ("stop", (0, 0), (), 5))
        self.assertEqual(run_known(program, (((0, 0), 1),)), ("stop", (0, 1), ((0, 0),), 8))
        self.assertEqual(run_known(program, (((0, 0), 1), ((0, 1), 1))), ("value", 1, ((0, 0), (0, 1)), 8))

    def test_many_entries(self):
        text = "share r of 2 times (1000). repeat(15, fn x : few 2. x, r[0])"
        self.assertEqual(value(text)[0], 500)
        text = "least r of 2. repeat(7, fn n : num. n + count(r[n + 1]), 0)"
        self.assertEqual(value(text), simple_value(text))


class TruthTest(unittest.TestCase):
    """[27], [39], [82]: what quantifiers tell is what going through all beginnings tells."""

    def values(self, tree, size, length):
        """The beginnings of a length and the values of a tree on the rows that begin so."""
        rows = [digits for digits in itertools.product(range(size), repeat=length)]
        return [(digits, value_on(tree, ((digits, (0,)),))) for digits in rows]

    def test_closed_ones(self):
        for seed in range(150):
            maker = Maker(seed)
            size = maker.random.choice((2, 3))
            tree = maker.tree((size,), [(i, 0) for i in range(4)], (0, 1, 1, 2), 3)
            values = self.values(tree, size, 4)
            number, truth = tree_term(tree), ("prim", "same", (tree_term(tree), ONE))
            ones = [digits for digits, value in values if value == 1]
            times = maker.random.randrange(1000)
            for term, wanted in (
                    (("some", "r", size, truth), int(bool(ones))), (("every", "r", size, truth), int(len(ones) == len(values))),
                    (("least", "r", size, number), min(value for _, value in values)),
                    (("greatest", "r", size, number), max(value for _, value in values)),
                    (("share", "r", size, truth, ("number", times)), times * len(ones) // len(values))):
                self.assertEqual(value_of(term)[0], wanted)
            found = min(ones, default=(0,) * 4) + (0,)
            for i, digit in enumerate(found):
                self.assertEqual(value_of(("at", ("find", "r", size, truth), ("number", i)))[0], digit)

    def test_worths(self):
        for seed in range(150):
            maker = Maker(seed)
            size = maker.random.choice((2, 3))
            tree = maker.tree((size,), [(i, 0) for i in range(4)], (0, 1, 2, 3, 4), 4)
            sides = [maker.random.randrange(2) for _ in range(4)]
            side = ("digit", 2, 0)
            for i in range(4):
                side = ("if", ("prim", "same", (("var", "m"), ("number", i))), ("digit", 2, sides[i]), side)
            worths = dict(self.values(tree, size, 4))
            for i in range(3, -1, -1):
                best = min if sides[i] else max
                worths = {digits[:i]: best(worths[digits[:i] + (d,)] for d in range(size)) for digits in worths}
            self.assertEqual(value_of(("contest", "r", size, "m", side, tree_term(tree)))[0], worths[()])

    def test_within_rows_from_outside(self):
        body = "if r[0] then count(s[1]) + count(s[count(r[1])]) * 2 else count(r[2]) + count(s[0]) * count(r[1])"
        for digits in itertools.product((0, 1), repeat=3):
            rows = ((digits, (0,)),)
            values = []
            for others in itertools.product((0, 1), repeat=2):
                text = f"fn r : rows 2. fn s : rows 2. {body}"
                values.append(run_told(read_term(text), rows + ((others, (0,)),))[0])
            for word, best in (("least", min), ("greatest", max)):
                self.assertEqual(run_told(fn(f"{word} s of 2. {body}"), rows)[0], best(values))
            for number in range(4):
                wanted = [value == number for value in values]
                for word, best in (("some", any), ("every", all)):
                    self.assertEqual(run_told(fn(f"{word} s of 2. ({body}) = {number}"), rows)[0], int(best(wanted)))
                self.assertEqual(run_told(fn(f"share s of 2 times (40). ({body}) = {number}"), rows)[0], 10 * sum(wanted))


def simple_value(text):
    run = simple.SimpleRun()
    return run.work(read_term(text), {}), run.steps


class ContestTest(unittest.TestCase):
    TREE = ("if r[0] then (if r[1] then 2 else 0) else if r[1] then 1 else 3")

    def test_sides(self):
        for side, worth in (("0:2", 3), ("1:2", 0), ("as 2 (x)", 1), ("as 2 (x + 1)", 2), ("x = 0", 2), ("x < 1", 2), ("x = 7", 3)):
            text = f"contest r of 2 by x ({side}). {self.TREE}"
            self.assertEqual(value(text)[0], worth, side)
            self.assertEqual(value(text), simple_value(text))

    def test_the_side_is_asked_at_each_game(self):
        # 1 for the contest; t: 4 steps up to its first stop, 8 up to each of the next two, 9 for each end; w: 3 steps for 3 games.
        text = f"contest r of 2 by x (x = 9). {self.TREE}"
        self.assertEqual(value(text), (3, 1 + 4 + 2 * 8 + 4 * 9 + 3 * 3))
        self.assertEqual(value(text.replace("x = 9", "1:2")), (0, 1 + 4 + 2 * 8 + 4 * 9 + 3))

    def test_entries_that_are_asked_and_not_needed(self):
        text = "contest r of 2 by x (x = 1). if r[1] then (if r[0] then count(r[2]) else count(r[2])) else count(r[2])"
        self.assertEqual(value(text), simple_value(text))
        self.assertEqual(value(text)[0], 1)
        # Asked in another order than that of the moves.
        text = "contest r of 3 by x (as 2 (x)). if count(r[2]) < 1 then count(r[0]) * 2 else count(r[1]) + count(r[0])"
        self.assertEqual(value(text), simple_value(text))

    def test_least_and_greatest(self):
        for seed in range(60):
            maker = Maker(seed)
            body = maker.term(("num",), {"r": ("rows", 2)}, 4)
            for word, side in (("greatest", 0), ("least", 1)):
                contest = ("contest", "r", 2, "m", ("digit", 2, side), body)
                self.assertEqual(value_of(contest)[0], value_of((word, "r", 2, body))[0])

    def test_sides_that_ask_rows_from_outside(self):
        program = fn("contest s of 2 by x (r[x]). if s[0] then (if s[2] then 2 else 0) else if s[2] then 1 else 3")
        self.assertEqual(run_known(program, ())[:3], ("stop", (0, 0), ()))
        self.assertEqual(run_known(program, (((0, 0), 0),))[:3], ("stop", (2, 0), ((0, 0),)))
        self.assertEqual(run_known(program, (((0, 0), 0), ((2, 0), 1)))[:3], ("value", 1, ((0, 0), (2, 0))))
        self.assertEqual(run_told(program, (((1, 1, 1), (0,)),))[:2], (0, ((0, 0), (2, 0))))
        text = "greatest r of 2. contest s of 2 by x (r[x]). if s[0] then (if s[2] then 2 else 0) else if s[2] then 1 else 3"
        self.assertEqual(value(text), simple_value(text))
        self.assertEqual(value(text)[0], 3)
        self.assertEqual(value(text.replace("greatest", "least"))[0], 0)

    def test_contests_in_one_another(self):
        for text in (
                "contest r of 2 by x (as 2 (x)). contest s of 2 by y (r[y]). count(r[0]) * 2 + count(s[1]) + count(r[2]) * count(s[0])",
                "contest r of 2 by x (as 2 (contest s of 2 by y (as 2 (x + y)). count(s[0]) + count(s[x]))). count(r[1]) + 2 * count(r[0])",
                "contest r of 3 by x (0:2). contest s of 2 by y (y = 1). (if r[1] = 1 then count(s[1]) else count(r[0]) + count(s[0]))"
                .replace("r[1] = 1", "count(r[1]) = 1")):
            self.assertEqual(value(text), simple_value(text), text)

    def test_random_contests(self):
        for seed in range(300):
            maker = Maker(seed)
            size = maker.random.choice((2, 3))
            tree = maker.tree((size,), [(i, 0) for i in range(4)], (0, 1, 2, 3), 3 if size == 3 else 4)
            side = maker.term(("few", 2), {"m": ("num",)}, 2)
            term = ("contest", "r", size, "m", side, tree_term(tree))
            run = simple.SimpleRun()
            self.assertEqual(value_of(term), (run.work(term, {}), run.steps))


def tree_term(tree):
    """A term of num that asks the row r as a tree does."""
    if tree[0] == "end":
        return ("number", tree[1])
    entry = ("count", ("at", ("var", "r"), ("number", tree[1][0])))
    term = tree_term(tree[2][-1])
    for digit in range(len(tree[2]) - 2, -1, -1):
        term = ("if", ("prim", "same", (entry, ("number", digit))), tree_term(tree[2][digit]), term)
    return term


class RunsTest(unittest.TestCase):
    def test_against_a_second_way_of_working_out(self):
        for seed in range(1500):
            maker = Maker(seed)
            menu = tuple(maker.random.choice((2, 2, 3)) for _ in range(maker.random.randrange(4)))
            program = maker.program(menu, maker.random.randrange(2, 7))
            rows = tuple(maker.told(size) for size in menu)
            places = sorted((i, k) for i in range(4) for k in range(len(menu)) if maker.random.random() < 0.5)
            known = tuple((place, maker.random.randrange(menu[place[1]])) for place in places)
            try:
                told, found = simple.run_told(program, rows, 20000), simple.run_known(program, known, 20000)
            except simple.TooLong:
                continue
            self.assertEqual(run_told(program, rows), told)
            self.assertEqual(run_known(program, known), found)

    def test_what_is_known_suffices(self):
        for seed in range(300):
            maker = Maker(seed)
            program = maker.program((2, 3), 5)
            rows = (maker.told(2), maker.told(3))
            worth, read, steps = run_told(program, rows)
            known = tuple(((i, k), (rows[k][0] + rows[k][1] * (i + 1))[i]) for i, k in sorted(read) if i < 1000)
            if len(known) == len(read):
                self.assertEqual(run_known(program, known), ("value", worth, read, steps))

    def test_read_places(self):
        program = read_term("fn a : rows 2. fn b : rows 2. (count(b[1]) + count(a[0]) + count(b[1]), a[count(b[0])])")
        self.assertEqual(run_told(program, (((), (1,)), ((0, 0), (1,))))[1], ((1, 1), (0, 0), (0, 1)))
        self.assertEqual(run_known(program, (((0, 0), 1), ((1, 1), 1)))[:3], ("stop", (0, 1), ((1, 1), (0, 0))))

    def test_bounds(self):
        for steps in (19999, 20000):
            self.assertEqual(value_of(term_of(steps))[1], steps)
            program = ("fn", "r", ("rows", 2), term_of(steps))
            self.assertEqual(run_known(program, ())[3], steps)
            self.assertEqual(run_told(program, (((), (0,)),))[2], steps)
        # Beyond the bound runs are told up to 100,000 steps, as terms that were returned may take many.
        self.assertEqual(value_of(term_of(100000))[1], 100000)
        for steps in (100001, 150000):
            program = ("fn", "r", ("rows", 2), term_of(steps))
            self.assertEqual(what_of(value_of, term_of(steps)), "program")
            self.assertEqual(what_of(run_known, program, ()), "program")
            self.assertEqual(what_of(run_told, program, (((), (0,)),)), "program")

    def test_runs_of_programs_that_are_not_small(self):
        # Sixty entries are read: there are 2 ** 60 ways, but each run is short.
        program = fn("repeat(60, fn n : num. n + 1 + count(r[n]) * 0, 0)")
        self.assertEqual(run_told(program, (((), (1,)),)), (60, tuple((i, 0) for i in range(60)), 4 + 60 * 10))
        self.assertEqual(run_known(program, (((0, 0), 1),))[:3], ("stop", (1, 0), ((0, 0),)))

    def test_great_numbers_of_steps(self):
        text = "repeat(60, fn a : num. repeat(60, fn b : num. repeat(60, fn c : num. c + 1, b), a), 0)"
        self.assertEqual(what_of(value, text), "program")
        text = "some r of 2. repeat(60, fn b : few 2. r[count(b)], repeat(60, fn n : num. n + 1 + count(r[n]) * 0, 0) = 7)"
        self.assertEqual(what_of(value, text), "program")


def term_of(steps):
    """A closed term of num that takes so many steps."""
    term = ONE
    while steps > 5000:
        many = min(59, (steps - 2004) // 61)
        inner = ("repeat", ("number", 59), ("fn", "y", ("num",), ("var", "y")), ("var", "x"))
        turned = ("repeat", ("number", many), ("fn", "x", ("num",), inner), ("number", 0))
        term = ("prim", "add", (term, turned))
        steps -= 1 + 4 + many * (4 + 59)
    # What is left is made of sums of one more, two steps each.
    if steps % 2 == 0:
        term = ("count", ("as", 2, term))
        steps -= 2
        term = ("first", ("pair", term, ONE))
        steps -= 3
    while steps > 1:
        term = with_children(("prim", "add", (ONE, ONE)), (term, ONE))
        steps -= 2
    return term


if __name__ == "__main__":
    unittest.main()
