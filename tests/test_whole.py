"""DOC.md [1], [4], [5] and [42] over the whole package."""

import unittest

from allendless.answering import answer_tree, answerer, answers_always, clash_at, first_entries, least_meeting
from allendless.codes import coder, decoder, over
from allendless.data import data_text
from allendless.desk import Desk
from allendless.judging import is_program, kind_of, result_of
from allendless.kinds import free_names, paths_of, plainly_named, put_in, same_term, term_at
from allendless.machines import machine_of, run_on
from allendless.merging import merged, tree_of
from allendless.moduli import modulus, needed_places
from allendless.plain import run_told, value_of
from allendless.quantify import bound, can_hold, holds, values_of
from allendless.reader import read_term
from allendless.sameness import same, same_programs
from allendless.session import Session
from allendless.shown import answer_to, certified, is_certified
from allendless.states import state_term
from allendless.trees import value_on
from allendless.turners import behind, entry_tree, first_unlike, fixed_beginnings, is_ahead, needs
from allendless.ways import is_small, ways
from allendless.writer import term_text
from tests.making import Maker
from tests.test_states import CHANGE, SUMS
from tests.wrong import told_by, what_of

# Some 60 ** 5 steps.
FAR = ("repeat(60, fn k1 : num. repeat(60, fn k2 : num. repeat(60, fn k3 : num. repeat(60, fn k4 : num. "
       "repeat(60, fn k5 : num. k5 + 1, k4), k3), k2), k1), 0)")


def great(kind, *menu):
    """A program that is far from small, with a result of a kind."""
    heads = "".join(f"fn {name} : rows {m}. " for name, m in zip("rstu", menu))
    return read_term(heads + {"num": f"{FAR} + 0", "few 2": f"{FAR} = 0", "few 3": f"as 3 ({FAR})", "both": f"({FAR}, 1:2)"}[kind])


def lengthy(term, many):
    """A term of num with so many sums around it, as one that was returned may have."""
    for _ in range(many):
        term = ("prim", "add", (term, ("number", 0)))
    return term


class WrongKindTest(unittest.TestCase):
    def check(self, function, *arguments):
        self.assertEqual(told_by(function, *arguments), ("WrongKind",), function)

    def test_truths(self):
        for kind in ("num", "few 3", "both"):
            for menu in ((), (2,), (3, 2, 2)):
                program = great(kind, *menu)
                for function in (can_hold, holds):
                    self.check(function, program)
                for question in (("holds", program), ("can hold", program), ("share", program, 1, 2), ("share", program, 1, 0)):
                    for call in ((answer_to, question), (certified, question), (is_certified, question, True, ())):
                        self.check(*call)

    def test_two_programs(self):
        for one, two in ((great("num", 2), great("few 2", 2)), (great("num", 2), great("num", 3)), (great("num"), great("num", 2)),
                         (great("both", 2, 3), great("both", 3, 2))):
            for first, second in ((one, two), (two, one)):
                self.check(same_programs, first, second)
                self.check(answer_to, ("same", first, second))
                self.check(is_certified, ("same", first, second), False, None)

    def test_bound(self):
        # OutOfRange comes ahead of WrongKind(), this ahead of all that a program raises.
        for kind, words in (("num", ("some", "every")), ("few 2", ("least", "greatest")), ("few 3", ("some", "least")), ("both", ("every", "greatest"))):
            program = great(kind, 2, 3)
            for word in words:
                for number in (2, -1, 7):
                    self.assertEqual(told_by(bound, program, number, word), ("OutOfRange", number))
                for number in (0, 1):
                    self.check(bound, program, number, word)
        self.assertEqual(told_by(bound, great("num"), 0, "least"), ("OutOfRange", 0))
        self.assertEqual(kind_of(bound(great("num", 2), 0, "least"), ()), ("num",))

    def test_systems_and_answers(self):
        for system in (great("few 2", 2), great("num", 2), read_term(f"fn j : num. fn r : rows 2. {FAR}"),
                       read_term(f"fn j : num. fn r : rows 2. fn s : rows 2. {FAR} = j"), read_term(f"fn j : few 2. fn r : rows 2. {FAR} = 1"),
                       read_term(f"fn j : num. {FAR} = j"), read_term(FAR)):
            self.check(least_meeting, system, 3)
            self.check(first_entries, system, 3, 5)
            self.check(clash_at, system, 3)
            self.check(least_meeting, system, 0)
        for program in (great("few 2"), great("few 2", 2), great("few 2", 2, 2, 2), great("num", 2, 2), great("few 3", 2, 3), great("both", 3, 2)):
            self.check(answers_always, program)
            self.check(answerer, program)
            self.check(answer_tree, program, 0)

    def test_turners(self):
        def turner(m, k):
            return read_term(f"fn r : rows {m}. row x of {k}. as {k} ({FAR} + count(r[x]))")
        self.check(behind, turner(3, 2), turner(2, 2))
        self.check(behind, turner(2, 2), turner(2, 3))
        for one, two in ((turner(2, 2), turner(3, 2)), (turner(2, 2), turner(2, 3))):
            for n in (0, 1, 40):
                self.check(first_unlike, one, two, n)
        for n in (0, 1, 40):
            self.check(fixed_beginnings, turner(2, 3), n)
            self.check(is_ahead, turner(3, 2), n)

    def test_questions(self):
        for value in (2, True, (0, 0), None):
            self.check(answer_to, ("occurs", great("few 2", 2), value))
        for place in ((0, 1), (0, True), (-1, 0), None):
            self.check(answer_to, ("hangs", great("num", 2), place))

    def test_lengthy_programs(self):
        program = ("fn", "r", ("rows", 2), lengthy(read_term(f"{FAR} + 0"), 30000))
        self.check(holds, program)
        self.check(same_programs, program, great("few 2", 2))
        self.check(answer_to, ("holds", program))
        self.check(bound, program, 0, "some")
        self.check(answers_always, program)

    def test_programs_of_the_right_kind(self):
        # Of the right kind, they are too great or answered.
        truth = great("few 2", 2)
        for call in ((holds, truth), (can_hold, truth), (same_programs, truth, truth), (answer_to, ("holds", truth)),
                     (answers_always, great("few 2", 2, 2)), (values_of, great("num", 2))):
            self.assertIn(what_of(*call), ("program", None))


class ReturnedTermTest(unittest.TestCase):
    """What functions returned is passed on, however large and deep it is."""

    def terms(self):
        kind = ("both", ("to", ("num",), ("to", ("num",), ("rows", 2))), ("both", ("rows", 3), ("to", ("num",), ("few", 6))))
        yield decoder(kind)
        yield coder(kind)
        yield state_term(SUMS)
        turner = read_term("fn r : rows 2. row x of 2. r[x + 1]")
        for _ in range(6):
            turner = behind(turner, turner)
        yield turner
        yield lengthy(("number", 1), 20000)

    def test_terms(self):
        for term in self.terms():
            self.assertEqual(free_names(term), ())
            kind = kind_of(term, ())
            self.assertEqual(data_text(plainly_named(plainly_named(term))), data_text(plainly_named(term)))
            self.assertTrue(same_term(term, plainly_named(term)))
            self.assertEqual(kind_of(put_in(("var", "x"), "x", term), ()), kind)
            text = term_text(term)
            self.assertIn(what_of(read_term, text), ("text", "depth", "term", None))
            if len(text) < 10 ** 4:
                self.assertEqual(term_at(term, paths_of(term)[-1])[0] in ("var", "number", "digit"), True)

    def test_many_turners_behind_one_another(self):
        turner = read_term("fn r : rows 2. row x of 2. r[x + 1]")
        for _ in range(6):
            turner = behind(turner, turner)
        self.assertEqual(entry_tree(turner, 3), ("ask", (67, 0), (("end", 0), ("end", 1))))
        self.assertEqual(needs(turner, 2), 66)
        self.assertIsNone(first_unlike(turner, plainly_named(turner), 3))
        self.assertEqual(needs(behind(state_term(CHANGE), state_term(CHANGE)), 4), 4)

    def test_programs_of_returned_terms(self):
        kind = ("to", ("num",), ("rows", 2))
        made = over("some", kind, "g", read_term("if g(0)[count(r[0])] then r[1] else 0:2"))
        program = ("fn", "r", ("rows", 2), made)
        self.assertIs(is_program(program), True)
        self.assertEqual(result_of(program), ("few", 2))
        self.assertTrue(same((2,), ways(program), ("ask", (1, 0), (("end", 0), ("end", 1)))))
        self.assertIs(can_hold(program), True)
        self.assertIs(holds(bound(program, 0, "some")), True)
        self.assertEqual(certified(("hangs", program, (0, 0)))[0], False)
        session = Session()
        session.define("p", read_term("fn r : rows 2. r[0]"))
        self.assertEqual(told_by(session.closed, coder(("both", kind, ("both", kind, kind)))), ("TooGreat", "term"))
        self.assertEqual(told_by(session.closed, lengthy(("var", "p"), 20000)), ("TooGreat", "term"))

    def test_deep_values(self):
        # A value of thousands of pairs.
        term = ("number", 3)
        for _ in range(4000):
            term = ("pair", term, ("count", ("at", ("var", "r"), ("number", 0))))
        program = ("fn", "r", ("rows", 2), term)
        tree = ways(program)
        machine = machine_of((2,), tree)
        self.assertEqual(len(machine[1]), 2)
        self.assertTrue(same((2,), tree_of(merged(machine)), tree))
        self.assertIs(certified(("same", program, program))[0], True)
        self.assertIs(is_certified(("same", program, program), True, tree), True)


class OneBoundTest(unittest.TestCase):
    def test_modulus(self):
        # For each program there is a number such that its value hangs on entries below it alone.
        for seed in range(60):
            maker = Maker(seed)
            menu = (2, 3)[:1 + seed % 2]
            term = maker.program(menu, 4)
            if not is_small(term):
                continue
            tree = ways(term)
            n = modulus(menu, tree)
            self.assertEqual(n, max([i + 1 for i, _ in needed_places(menu, tree)], default=0))
            rows = tuple(maker.told(size) for size in menu)
            begun = tuple((tuple(entry(row, i) for i in range(n)), (0,)) for row in rows)
            other = tuple((tuple(entry(row, i) for i in range(n)), (size - 1,)) for row, size in zip(rows, menu))
            self.assertEqual(len({run_told(term, told)[0] for told in (rows, begun, other)}), 1)
            self.assertEqual(value_on(tree, rows), run_told(term, begun)[0])
            if n < 100:
                value, t = run_on(machine_of(menu, tree), rows)
                self.assertEqual(value, run_told(term, rows)[0])
                self.assertLessEqual(t, n * len(menu))

    def test_desk_and_functions_agree(self):
        desk = Desk(Session())
        for seed in range(60):
            term = Maker(seed).program((2,), 3, ("few", 2))
            if is_small(term) and len(term_text(term)) < 1000:
                self.assertEqual(desk.answer("holds " + term_text(term)), "yes" if answer_to(("holds", term)) else "no")
                self.assertEqual(desk.answer("canhold " + term_text(term)), "yes" if can_hold(term) else "no")
        self.assertEqual(value_of(read_term("1 + 1")), (2, 3))


def entry(row, i):
    beginning, around = row
    return beginning[i] if i < len(beginning) else around[(i - len(beginning)) % len(around)]


if __name__ == "__main__":
    unittest.main()
