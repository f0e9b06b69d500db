"""DOC.md part Q, [118], and the heading allendless/desk.py."""

import random
import unittest

from allendless.desk import Desk
from allendless.judging import is_program
from allendless.leasttrees import least
from allendless.quantify import values_of
from allendless.reader import read_term
from allendless.session import Session
from allendless.ways import is_small, ways
from allendless.writer import term_text
from tests.making import Maker
from tests.test_quantify import BIG


def value_text(value):
    return f"({value_text(value[0])} {value_text(value[1])})" if isinstance(value, tuple) else str(value)


def tree_text(tree):
    if tree[0] == "end":
        return value_text(tree[1])
    return f"[{tree[1][0]} {tree[1][1]}: {' '.join(tree_text(branch) for branch in tree[2])}]"


class DeskTest(unittest.TestCase):
    def check(self, *lines):
        """Each line with its answer, on one desk."""
        session = Session()
        desk = Desk(session)
        for line, answer in lines:
            self.assertEqual(desk.answer(line), answer, line)
        return session

    def test_examples(self):
        self.check(("values fn r: rows 2. count(r[0])", "0 1 "), ("tree fn r: rows 2. count(r[0])", "[0 0: 0 1]"), ("undo", "error nothingtoundo"))

    def test_changes(self):
        session = self.check(
            ("define a 2", "ok"), ("define f fn x : num. x * a", "ok"), ("define a 3", "error nametaken"), ("kind f", "num -> num"),
            ("values f(4)", "8 "), ("drop", "ok"), ("kind f", "error unknown"), ("undo", "ok"), ("kind f", "num -> num"), ("redo", "ok"),
            ("redo", "error nothingtoredo"), ("drop", "ok"), ("drop", "error nothingdefined"), ("undo", "ok"), ("undo", "ok"), ("undo", "ok"),
            ("undo", "ok"), ("undo", "error nothingtoundo"), ("redo", "ok"), ("drop ", "ok"), ("undo ", "ok"), ("redo ", "ok"))
        self.assertEqual(len(session), 0)

    def test_the_session_is_used_and_changed(self):
        session = Session()
        session.define("a", read_term("5"))
        one, two = Desk(session), Desk(session)
        self.assertEqual(one.answer("define b a + 1"), "ok")
        self.assertEqual(two.answer("values a + b"), "11 ")
        self.assertEqual(session.definitions(), (("a", ("number", 5)), ("b", ("prim", "add", (("var", "a"), ("number", 1))))))
        with session:
            self.assertEqual(two.answer("drop"), "ok")
        self.assertEqual(one.answer("values b"), "6 ")

    def test_kinds(self):
        self.check(
            ("kind 1", "num"), ("kind 2:3", "few 3"), ("kind (1, row x of 4. as 4 (x))", "num & rows 4"),
            ("kind fn f : num -> num. f", "(num -> num) -> num -> num"), ("kind fn x : num & few 2. x", "num & few 2 -> num & few 2"),
            ("kind   1 ", "num"), ("kind 1 # what stands behind is left out", "num"), ("kind 1(2)", "error badterm"), ("kind x", "error unknown"))

    def test_questions(self):
        self.check(
            ("holds fn r : rows 2. count(r[0]) < 2", "yes"), ("holds fn r : rows 2. r[0]", "no"), ("canhold fn r : rows 2. r[0]", "yes"),
            ("canhold fn r : rows 2. 0:2", "no"), ("holds 1 = 1", "yes"), ("canhold 1 < 1", "no"), ("holds 1", "error wrongkind"),
            ("holds fn r : rows 3. r[0]", "error wrongkind"), ("canhold fn x : num. 1:2", "error wrongkind"),
            ("holds row x of 2. 1:2", "error wrongkind"), ("canhold (1:2, 1:2)", "error wrongkind"),
            ("holds fn a : rows 2. fn b : rows 2. fn c : rows 2. fn d : rows 2. fn e : rows 2. 1:2", "error wrongkind"),
            ("define p fn r : rows 2. every s of 2. some t of 2. count(s[0]) = count(t[count(r[0])])", "ok"), ("holds p", "yes"),
            ("holds fn q : rows 2. p(q)", "yes"))

    def test_values_and_trees(self):
        self.check(
            ("values 7", "7 "), ("values (1, (0:2, 3))", "(1 (0 3)) "), ("values fn r : rows 3. count(r[5]) * 4", "0 4 8 "),
            ("values fn r : rows 2. (r[1], count(r[0]) * 9)", "(0 0) (0 9) (1 0) (1 9) "), ("values fn x : num. x", "error wrongkind"),
            ("tree 7", "7"), ("tree (1, 2)", "(1 2)"),
            ("tree fn r : rows 2. fn s : rows 3. if s[0] then 1 else 2", "error badterm"),
            ("tree fn r : rows 2. fn s : rows 3. if r[10] then (5, s[0]) else (5, 0:3)", "[0 1: (5 0) [10 0: (5 0) (5 1)] [10 0: (5 0) (5 2)]]"),
            ("tree fn r : rows 2. if r[3] then r[0] else r[0]", "[0 0: 0 1]"))
        for seed in range(80):
            maker = Maker(seed)
            menu = (2, 3)[:1 + seed % 2]
            term = maker.program(menu, 3)
            if is_small(term) and len(term_text(term)) < 2000:
                desk = Desk(Session())
                self.assertEqual(desk.answer(f"values {term_text(term)}"), "".join(value_text(value) + " " for value in values_of(term)))
                self.assertEqual(desk.answer(f"tree {term_text(term)}"), tree_text(least(menu, ways(term))))

    def test_same(self):
        self.check(
            ("same fn r : rows 2. 1 ; fn s : rows 2. 2 - 1", "yes"), ("same fn r : rows 2. r[0];fn s : rows 2. s[1]", "no"), ("same 1;1", "yes"),
            ("same 1 ; 1:2", "error wrongkind"), ("same fn r : rows 2. 1 ; 1", "error wrongkind"), ("same 1 ; fn x : num. x", "error wrongkind"),
            ("same fn x : num. x ; 1", "error wrongkind"), ("same 1 ; 1 ; 1", "error badtext"), ("same 1", "what"), ("same", "what"), ("same ", "what"),
            ("same ;", "error badtext"), ("same 1 ;", "error badtext"), ("same ; 1", "error badtext"), ("same; 1", "what"), ("same1 ; 1", "what"),
            # Errors of the first term come ahead of those of the second one.
            ("same x ; )", "error unknown"), ("same 1(1) ; )", "error badterm"), ("same fn x : num. x ; )", "error wrongkind"), ("same ) ; x", "error badtext"),
            ("same 1 ; x", "error unknown"), ("same 1 ; 1(1)", "error badterm"))

    def test_lines_of_another_form(self):
        self.check(
            ("", "what"), (" ", "what"), ("  undo", "what"), (" kind 1", "what"), ("Kind 1", "what"), ("kinds 1", "what"), ("kind", "what"),
            ("holds", "what"), ("canhold", "what"), ("values", "what"), ("tree", "what"), ("define", "what"), ("define ", "what"), ("define a", "what"),
            ("drop a", "what"), ("undo 1", "what"), ("redo  ", "what"), ("undo  ", "what"), ("drop x y", "what"), ("quit", "what"), ("can hold 1", "what"),
            ("kind(1)", "what"), ("value 1", "what"), ("redo;", "what"), ("what", "what"), ("~", "what"))

    def test_missing_and_empty_parts(self):
        self.check(
            ("kind ", "error badtext"), ("kind  ", "error badtext"), ("holds ", "error badtext"), ("canhold ", "error badtext"),
            ("values ", "error badtext"), ("tree ", "error badtext"), ("define a ", "error badtext"), ("define  ", "error badtext"),
            ("define   ", "error badtext"), ("define  1", "error badname"), ("define a  1", "ok"), ("kind # nothing", "error badtext"),
            ("define b# 1", "error badname"), ("define b 1 # one", "ok"), ("values a + b", "2 "))

    def test_names(self):
        self.check(
            ("define fn 1", "error badname"), ("define A 1", "error badname"), ("define 1 1", "error badname"), ("define " + "x" * 21 + " 1", "error badname"),
            ("define a_1 1", "ok"), ("define a_1 2", "error nametaken"), ("define b c", "error unknown"), ("define b b", "error unknown"),
            # The text is read first, and its errors come ahead of those of the name; then the name, then what closed raises.
            ("define fn )", "error badtext"), ("define a_1 )", "error badtext"), ("define fn " + "(" * 41 + "1", "error toogreat"),
            ("define fn x", "error badname"), ("define a_1 x", "error nametaken"), ("define b 1(1)", "error badterm"),
            ("define b x(" + "1 + " * 30 + "1)", "error unknown"), ("define b " + " + ".join(["a_1"] * 35), "ok"),
            ("define c b + b + b", "error toogreat"), ("define c 0", "ok"), ("values c", "0 "))

    def test_texts_that_are_too_great(self):
        self.check(
            ("kind " + "(" * 40 + "1" + ")" * 40, "num"), ("kind " + "(" * 41 + "1" + ")" * 41, "error toogreat"),
            ("kind " + " + ".join("1" * 101), "error toogreat"), ("kind 1" + " " * 20000, "error toogreat"), ("same 1 ; 1" + " " * 20000, "error toogreat"),
            ("kind !", "error badtext"), ("kind 1 1", "error badtext"), ("kind A", "error badtext"))

    def test_great_programs(self):
        desk = Desk(Session())
        great = f"fn r : rows 2. {BIG} + count(r[0])"
        for line in (f"values {great}", f"tree {great}", f"same {great} ; {great}"):
            self.assertEqual(desk.answer(line), "error toogreat")
        # The wrong kind comes first, whatever the size.
        self.assertEqual(desk.answer(f"holds {great}"), "error wrongkind")
        self.assertEqual(desk.answer(f"canhold {great}"), "error wrongkind")
        self.assertEqual(desk.answer(f"same {great} ; 1"), "error wrongkind")
        self.assertEqual(desk.answer(f"same 1 ; {great}"), "error wrongkind")

    def test_any_line_is_answered(self):
        rng = random.Random(0)
        words = ("define", "drop", "undo", "redo", "kind", "holds", "canhold", "values", "tree", "same", "a", "b", "fn", "r", ":", "rows", "2", ".", "1",
                 "(", ")", ";", "+", "r[0]", "fn r : rows 2.", "count(r[1])", "=", "", "#", "0:2", "some s of 2.", "~", "'")
        desk = Desk(Session())
        answers = set()
        for _ in range(4000):
            line = rng.choice((" ", " ", "")).join(rng.choice(words) for _ in range(rng.randrange(1, 7)))
            if rng.random() < 0.6:
                line = f"{rng.choice(words[:10])} {line}"
            answer = desk.answer(line)
            self.assertIsInstance(answer, str)
            answers.add(answer if answer.startswith("error") or answer in ("ok", "what", "yes", "no") else "")
        self.assertGreater(len(answers), 10)
        self.assertIs(is_program(read_term("1")), True)


if __name__ == "__main__":
    unittest.main()
