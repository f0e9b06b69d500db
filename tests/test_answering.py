"""DOC.md [68] to [70], and the heading allendless/answering.py."""

import unittest

from allendless.answering import answer_tree, answerer, answers_always, clash_at, first_entries, least_meeting
from allendless.judging import kind_of
from allendless.kinds import put_in
from allendless.leasttrees import is_least
from allendless.plain import run_told
from allendless.quantify import bound, holds
from allendless.reader import read_term
from allendless.told import told_entry
from allendless.trees import value_on
from allendless.ways import is_small
from tests import simple
from tests.filling import ask, end, fillings, places_in, value_at
from tests.making import Maker
from tests.test_quantify import BIG
from tests.wrong import told_by, what_of

ALL_ONES = read_term("fn x : num. fn r : rows 2. r[x]")
ASCENDING = read_term("fn x : num. fn r : rows 3. if count(r[x]) < count(r[x + 1]) + 1 then 1:2 else 0:2")
CLASHING = read_term("fn x : num. fn r : rows 2. if x = 5 then as 2 (1 - count(r[2])) else r[x]")


def system(text, m=2):
    return read_term(f"fn x : num. fn r : rows {m}. {text}")


def nodes_in(term):
    return 1 + sum(nodes_in(part) for part in parts_of(term))


def parts_of(term):
    if term[0] == "prim":
        return term[2]
    return [part for part in term[1:] if isinstance(part, tuple) and part and part[0] not in ("num", "few", "rows", "to", "both")]


def by_filling(term, m, n):
    """The least common solution of the first n conditions, by all fillings."""
    trees = [simple.ways(("fn", term[3][1], ("rows", m), put_in(term[3][3], term[1], ("number", j))), (m,), 10 ** 9)[0] for j in range(n)]
    for digits in fillings((m,), places_in(*trees)):
        if all(value_at(tree, digits) == 1 for tree in trees):
            return {i: digit for (i, _), digit in digits.items() if digit}
    return None


class SystemsTest(unittest.TestCase):
    def test_examples(self):
        self.assertEqual(least_meeting(ALL_ONES, 0), ())
        self.assertEqual(least_meeting(ALL_ONES, 3), (((0, 0), 1), ((1, 0), 1), ((2, 0), 1)))
        self.assertEqual(first_entries(ALL_ONES, 3, 5), (1, 1, 1, 0, 0))
        self.assertEqual((first_entries(ALL_ONES, 3, 0), first_entries(ALL_ONES, 2, 200)), ((), (1, 1) + (0,) * 198))
        self.assertEqual([clash_at(ALL_ONES, most) for most in (0, 1, 12)], [None] * 3)
        self.assertEqual(least_meeting(ASCENDING, 5), ())

    def test_clashes(self):
        self.assertEqual([clash_at(CLASHING, most) for most in (0, 5, 6, 7, 12)], [None, None, 6, 6, 6])
        self.assertEqual([least_meeting(CLASHING, n) is None for n in range(13)], [n > 5 for n in range(13)])
        self.assertEqual((first_entries(CLASHING, 6, 3), first_entries(CLASHING, 5, 3)), (None, (1, 1, 1)))
        self.assertEqual((clash_at(system("0:2"), 12), clash_at(system("0:2"), 0), least_meeting(system("0:2"), 0)), (1, None, ()))

    def test_least_ones_ascend(self):
        met = 0
        for seed in range(60):
            maker = Maker(seed, quantifiers=seed % 3 == 0)
            m = maker.random.choice((2, 2, 3))
            term = ("fn", "x", ("num",), ("fn", "r", ("rows", m), maker.term(("few", 2), {"x": ("num",), "r": ("rows", m)}, 5)))
            rows = []
            for n in range(13):
                conditions = [put_in(term[3], "x", ("number", j)) for j in range(n)]
                if not all(is_small(condition) for condition in conditions):
                    break
                trees = [simple.ways(condition, (m,), 10 ** 9)[0] for condition in conditions]
                if m ** len(places_in(*trees)) > 1000:
                    break
                wanted = by_filling(term, m, n)
                told = None if wanted is None else tuple(sorted(((i, 0), digit) for i, digit in wanted.items()))
                self.assertEqual(least_meeting(term, n), told)
                self.assertEqual(first_entries(term, n, 9), None if wanted is None else tuple(wanted.get(i, 0) for i in range(9)))
                self.assertEqual(clash_at(term, n), next((k for k, row in enumerate(rows + [wanted]) if row is None), None))
                if wanted is not None and rows:
                    self.assertGreaterEqual([wanted.get(i, 0) for i in range(70)], [rows[-1].get(i, 0) for i in range(70)])
                met += wanted is not None and rows != [] and wanted != rows[-1]
                rows.append(wanted)
        self.assertGreater(met, 10)

    def test_from_0_to_12(self):
        # Condition x: of the entries x and x + 1 one is 1, the other one not.
        term = system("if r[x] then as 2 (1 - count(r[x + 1])) else r[x + 1]")
        for n in range(10):
            self.assertEqual(first_entries(term, n, n + 1), tuple(i % 2 for i in range(n + 1)) if n else (0,))
        # Conditions 0 to 3 want entry 0 or one more, condition 4 wants entry 0.
        term = system("if r[0] then 1:2 else if x < 4 then r[x + 1] else 0:2")
        rows = [first_entries(term, n, 6) for n in range(13)]
        self.assertEqual(rows, [(0,) + (1,) * n + (0,) * (5 - n) for n in range(5)] + [(1, 0, 0, 0, 0, 0)] * 8)
        self.assertEqual(rows, sorted(rows))
        self.assertEqual(first_entries(ALL_ONES, 9, 200), (1,) * 9 + (0,) * 191)

    def test_names(self):
        term = read_term("fn v0 : num. fn v1 : rows 2. if some v2 of 2. v2[v0] then v1[v0] else 0:2")
        self.assertEqual(least_meeting(term, 2), (((0, 0), 1), ((1, 0), 1)))
        term = read_term("fn v1 : num. fn v0 : rows 2. some v3 of 2. count(v3[v1]) = v1 * 0 + 1")
        self.assertEqual(least_meeting(term, 2), ())
        self.assertIsNone(clash_at(term, 3))

    def test_wrong_kinds(self):
        for text in ("1", "fn x : num. 1:2", "fn r : rows 2. r[0]", "fn x : num. fn r : rows 2. 1", "fn x : num. fn r : rows 2. 1:3",
                     "fn x : few 2. fn r : rows 2. 1:2", "fn x : num. fn y : num. 1:2", "fn r : rows 2. fn x : num. r[x]",
                     "fn x : num. fn r : rows 2. fn s : rows 2. 1:2", f"fn x : num. fn r : rows 2. {BIG}", f"({BIG}, 1)", BIG,
                     "(fn f : num -> rows 2 -> few 2. f)(fn x : num. fn r : rows 2. 1:2)", "row x of 2. 1:2",
                     "fn x : num. if 1:2 then fn r : rows 2. r[0] else fn s : rows 2. s[0]"):
            term = read_term(text)
            self.assertEqual(told_by(least_meeting, term, 3), ("WrongKind",), text)
            self.assertEqual(told_by(least_meeting, term, 0), ("WrongKind",))
            self.assertEqual(told_by(first_entries, term, 3, 3), ("WrongKind",))
            self.assertEqual(told_by(clash_at, term, 0), ("WrongKind",))
            self.assertEqual(told_by(clash_at, term, 5), ("WrongKind",))

    def test_great_ones(self):
        great = system(f"as 2 ({BIG} + count(r[0]))")
        self.assertEqual(least_meeting(great, 0), ())
        self.assertIsNone(clash_at(great, 0))
        for n in (1, 12):
            self.assertEqual(what_of(least_meeting, great, n), "program")
            self.assertEqual(what_of(first_entries, great, n, 3), "program")
            self.assertEqual(what_of(clash_at, great, n), "program")


class AnswersTest(unittest.TestCase):
    def test_example(self):
        term = read_term("fn a : rows 2. fn b : rows 2. if b[0] then a[1] else if a[1] then 0:2 else 1:2")
        self.assertIs(answers_always(term), True)
        self.assertEqual(answer_tree(term, 0), ask(1, 0, 0, 1))
        for i in (1, 2, 200):
            self.assertEqual(answer_tree(term, i), end(0))

    def test_by_all_fillings(self):
        met = [0, 0]
        for seed in range(300):
            maker = Maker(seed)
            menu = (maker.random.choice((2, 3)), maker.random.choice((2, 3)))
            term = maker.program(menu, maker.random.randrange(3, 6), ("few", 2))
            if not is_small(term):
                continue
            tree = simple.ways(term, menu, 20000)[0]
            places = places_in(tree)
            if len(list(fillings(menu, places))) > 1000:
                continue
            always = True
            answers = {}
            inner, outer = [place for place in places if place[1] == 0], [place for place in places if place[1] == 1]
            for digits in fillings(menu, inner):
                held = [more for more in fillings(menu, outer) if value_at(tree, {**digits, **more}) == 1]
                always = always and bool(held)
                answers[tuple(digits.items())] = held[0] if held else {}
            self.assertIs(answers_always(term), always)
            met[always] += 1
            for i in (0, 1, 2, 200):
                made = answer_tree(term, i)
                self.assertIs(is_least(made), True)
                for digits, answer in answers.items():
                    self.assertEqual(value_at(made, dict(digits)), answer.get((i, 1), 0))
            self.check_answerer(maker, term, menu)
        self.assertGreater(min(met), 15)

    def check_answerer(self, maker, term, menu):
        made = answerer(term)
        self.assertEqual(kind_of(made, ()), ("to", ("rows", menu[0]), ("rows", menu[1])))
        self.assertLessEqual(nodes_in(made), nodes_in(term) + 60)
        row = maker.told(menu[0])
        for i in (0, 1, 3):
            entry = ("fn", "q", ("rows", menu[0]), ("at", ("call", made, ("var", "q")), ("number", i)))
            if is_small(entry):
                value = run_told(entry, (row,))[0]
                self.assertEqual(value, value_on(answer_tree(term, i), (row,)))

    def test_what_can_be_answered_is(self):
        # For every a there is a b exactly if the program gives 1 with the answerer's row, for every a.
        for text, always in (("as 2 (count(b[0]) + count(a[0]))", True), ("if a[0] then b[1] else as 2 (1 - count(b[1]))", True),
                             ("if a[0] then b[1] else 0:2", False), ("a[0]", False), ("1:2", True), ("0:2", False), ("b[3]", True)):
            term = read_term(f"fn a : rows 2. fn b : rows 2. {text}")
            self.assertIs(answers_always(term), always, text)
            self.assertIs(holds(bound(term, 1, "some")), always)
            with_answer = ("fn", "q", ("rows", 2), ("call", ("call", term, ("var", "q")), ("call", answerer(term), ("var", "q"))))
            row = (((1, 0), (0, 1)),)
            if always:
                self.assertEqual(run_told(with_answer, row)[0], 1)

    def test_noughts_where_there_is_none(self):
        term = read_term("fn a : rows 2. fn b : rows 3. if a[0] then count(b[1]) = 2 else 0:2")
        self.assertIs(answers_always(term), False)
        self.assertEqual((answer_tree(term, 1), answer_tree(term, 0)), (ask(0, 0, 0, 2), end(0)))
        entry = ("fn", "q", ("rows", 2), ("at", ("call", answerer(term), ("var", "q")), ("number", 1)))
        self.assertEqual([run_told(entry, (((), (digit,)),))[0] for digit in (0, 1)], [0, 2])
        self.assertEqual(told_entry(((2,), (0,)), 0), 2)

    def test_wrong_kinds(self):
        for text in ("1:2", "fn a : rows 2. a[0]", "fn a : rows 2. fn b : rows 2. 1", "fn a : rows 2. fn b : rows 2. 1:3",
                     "fn a : rows 2. fn b : rows 2. (1:2, 1:2)", "fn a : rows 2. fn b : rows 2. fn c : rows 2. 1:2", "fn a : num. fn b : rows 2. 1:2",
                     f"fn a : rows 2. fn b : rows 2. {BIG}", f"fn a : rows 2. as 2 ({BIG})", "fn a : rows 2. fn b : num. a[b]",
                     "fn a : rows 2. fn b : rows 2. fn x : num. 1:2", f"fn a : rows 2. fn b : rows 2. ({BIG}, 1:2)"):
            term = read_term(text)
            for function, more in ((answers_always, ()), (answerer, ()), (answer_tree, (0,))):
                self.assertEqual(told_by(function, term, *more), ("WrongKind",), text)

    def test_great_ones(self):
        great = read_term(f"fn a : rows 2. fn b : rows 2. as 2 ({BIG})")
        self.assertEqual((what_of(answers_always, great), what_of(answer_tree, great, 0)), ("program", "program"))
        self.assertEqual(kind_of(answerer(great), ()), ("to", ("rows", 2), ("rows", 2)))


if __name__ == "__main__":
    unittest.main()
