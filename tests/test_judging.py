"""DOC.md [13], [16], [17], the table of [12], and the heading allendless/judging.py."""

import unittest

from allendless.errors import BadTerm
from allendless.judging import fault_of, is_program, kind_of, menu_of, result_of
from allendless.kinds import children, paths_of, put_at, term_at, with_children
from allendless.reader import read_kind, read_term
from allendless.writer import kind_text
from tests.making import Maker
from tests.test_kinds import deep_fn

NUM, TRUTH = ("num",), ("few", 2)
X, ONE, YES = ("var", "x"), ("number", 1), ("digit", 2, 1)
SCOPE = (
    ("n", NUM), ("k", NUM), ("b", TRUTH), ("c", ("few", 3)), ("r", ("rows", 2)), ("s", ("rows", 3)), ("f", ("to", NUM, TRUTH)),
    ("g", ("to", NUM, NUM)), ("p", ("both", NUM, TRUTH)), ("h", ("to", ("to", NUM, TRUTH), ("rows", 2))))

RIGHT = (
    ("n", "num"), ("b", "few 2"), ("f", "num -> few 2"), ("0:1", "few 1"), ("8:9", "few 9"), ("7", "num"), ("n + k", "num"),
    ("n - k", "num"), ("n * k", "num"), ("n / k", "num"), ("n | k", "num"), ("n < k", "few 2"), ("n = k", "few 2"),
    ("as 3 (n)", "few 3"), ("as 1 (n)", "few 1"), ("as 9 (n)", "few 9"), ("count(b)", "num"), ("count(c)", "num"), ("count(0:9)", "num"),
    ("if b then n else k", "num"), ("if b then f else f", "num -> few 2"), ("fn x : rows 2. n", "rows 2 -> num"),
    ("fn x : num. x", "num -> num"), ("f(n)", "few 2"), ("h(f)", "rows 2"), ("h(fn x : num. b)", "rows 2"), ("(n, b)", "num & few 2"),
    ("(f, (r, s))", "(num -> few 2) & (rows 2 & rows 3)"), ("first(p)", "num"), ("second(p)", "few 2"), ("repeat(n, g, k)", "num"),
    ("repeat(n, fn x : rows 2. x, r)", "rows 2"), ("r[n]", "few 2"), ("s[n]", "few 3"), ("row x of 2. f(x)", "rows 2"),
    ("row x of 3. as 3 (x)", "rows 3"), ("some x of 2. x[0]", "few 2"), ("every x of 9. b", "few 2"), ("some x of 3. x[0] = x[1]", None),
    ("least x of 2. n", "num"), ("greatest x of 3. count(x[0])", "num"), ("find x of 3. b", "rows 3"),
    ("share x of 2 times (n). x[0]", "num"), ("contest x of 3 by y (f(y)). count(x[0])", "num"))
WRONG = (
    ("b + n", ()), ("n + b", ()), ("n - r", ()), ("c * n", ()), ("n / f", ()), ("b | n", ()), ("b < b", ()), ("n = c", ()),
    ("as 2 (b)", ()), ("count(n)", ()), ("count(r)", ()), ("if n then n else n", ()), ("if c then n else n", ()),
    ("if b then n else b", ()), ("f(b)", ()), ("n(n)", ()), ("f(f)", ()), ("h(g)", ()), ("first(n)", ()), ("second(f)", ()),
    ("repeat(b, g, n)", ()), ("repeat(n, f, n)", ()), ("repeat(n, g, b)", ()), ("repeat(n, n, n)", ()), ("r[b]", ()), ("n[n]", ()),
    ("row x of 2. n", ()), ("row x of 3. b", ()), ("row x of 2. x", ()), ("some x of 2. n", ()), ("every x of 2. c", ()),
    ("least x of 2. b", ()), ("greatest x of 2. x", ()), ("find x of 2. n", ()), ("share x of 2 times (b). b", ()),
    ("share x of 2 times (n). n", ()), ("contest x of 2 by y (n). n", ()), ("contest x of 2 by y (b). b", ()),
    ("contest x of 2 by y (y). n", ()), ("(n, b + n)", (1,)), ("fn x : rows 3. x[0] = n", (0,)), ("n[b + n]", (1,)),
    ("(b + n)(n + b)", (0,)), ("share x of 2 times (n + b). n + n + b", (0,)),
    ("contest x of 2 by y (b + n). n + b", (0,)), ("n + (k + (b + n))", (1, 1)))
NO_TERMS = (
    (), 1, "var", None, True, ("var",), ("var", "x", "y"), ("var", "fn"), ("var", ""), ("var", "X"), ("var", 1), ("var", "a" * 21),
    ("digit", 2), ("digit", 2, 2), ("digit", 2, -1), ("digit", 0, 0), ("digit", 10, 0), ("digit", True, 0), ("digit", 2, True),
    ("digit", 2, False), ("number",), ("number", -1), ("number", 10 ** 18), ("number", True), ("number", "1"), ("number", 1, 1),
    ("prim", "add", X, X), ("prim", "add", (X,)), ("prim", "add", (X, X, X)), ("prim", "plus", (X, X)), ("prim", "add", "ab"),
    ("prim", "add"), ("prim", ("add",), (X, X)), ("prim", None, (X, X)), ("as", 0, X), ("as", 10, X), ("as", True, X), ("as", X),
    ("count",), ("count", X, X), ("if", X, X), ("if", X, X, X, X), ("fn", "x", NUM), ("fn", "x", ("num", 1), X), ("fn", "x", "num", X),
    ("fn", "of", NUM, X), ("fn", 1, NUM, X), ("call", X), ("call", X, X, X), ("pair", X), ("first",), ("second", X, X),
    ("repeat", X, X), ("at", X), ("row", "x", 1, X), ("row", "x", 10, X), ("row", "x", True, X), ("row", "x", X), ("row", "", 2, X),
    ("some", "x", 1, X), ("every", "by", 2, X), ("least", "x", "2", X), ("greatest", "x", 2), ("find", "x", None, X),
    ("share", "x", 2, X), ("share", "x", 2, X, X, X), ("share", "x", 1, X, X), ("contest", "x", 2, X, X), ("contest", "x", 2, 1, X, X),
    ("contest", "x", 2, "as", X, X), ("contest", "if", 2, "x", X, X), ("contest", "x", 1, "y", X, X), ("plus", X, X), (X, X),
    (("var", "x"), "x"), ([],), ("contest", "x", 2, "y", X), ("add", X, X), ("word",), ("", "x"))


class FaultTest(unittest.TestCase):
    def test_examples(self):
        self.assertEqual(fault_of(("if", ONE, ("number", 2), ("digit", 2, 0)), ()), ((), "kind"))
        self.assertEqual(fault_of(("call", ("var", "f"), ("prim", "add", (ONE, ("var", "g")))), ()), ((0,), "free"))

    def test_form(self):
        for value in NO_TERMS:
            self.assertEqual(fault_of(value, ()), ((), "form"), value)
            self.assertEqual(fault_of(("pair", ONE, ("count", value)), ()), ((1, 0), "form"), value)
            self.assertEqual(fault_of(("prim", "add", (value, ONE)), ()), ((0,), "form"), value)
            self.assertEqual(fault_of(("contest", "x", 2, "y", value, value), ()), ((0,), "form"), value)

    def test_names(self):
        for text, scope, fault in (
                ("x", (), ((), "free")), ("x", ("x",), None), ("fn x : num. x", ("x",), ((), "twice")),
                ("fn x : num. fn x : num. x", (), ((0,), "twice")), ("(fn x : num. x, fn x : num. x)", (), ((1,), "twice")),
                ("(fn x : num. x, x)", (), ((1,), "free")), ("(x, fn x : num. x)", ("x",), ((1,), "twice")),
                ("(x, fn x : num. x)", (), ((0,), "free")), ("(fn x : num. y, fn x : num. x)", (), ((0, 0), "free")),
                ("contest x of 2 by x (0:2). 1", (), ((), "twice")), ("contest x of 2 by y (0:2). 1", ("y",), ((), "twice")),
                ("contest x of 2 by y (as 2 (count(x[0]))). 1", (), ((0, 0, 0, 0), "free")),
                ("contest x of 2 by y (0:2). y", (), ((1,), "free")), ("contest x of 2 by y (as 2 (y)). count(x[0])", (), None),
                ("share x of 2 times (count(x[0])). 0:2", (), ((1, 0, 0), "free")), ("share x of 2 times (1). x[0]", (), None),
                ("share x of 2 times (find x of 2. 0:2). 0:2", (), ((1,), "twice")),
                ("row x of 2. find y of 2. some x of 2. 0:2", (), ((0, 0), "twice")), ("least x of 2. x(y)", ("y",), "kind"),
                ("(fn x : num. x)(x)", (), ((1,), "free"))):
            found = fault_of(read_term(text), tuple((name, NUM) for name in scope))
            self.assertEqual(found[1] if fault == "kind" else found, fault, text)

    def test_kinds(self):
        for text, path in WRONG:
            term = read_term(text)
            self.assertEqual(fault_of(term, SCOPE), (path, "kind"), text)
            with self.assertRaises(BadTerm) as caught:
                kind_of(term, SCOPE)
            self.assertEqual((caught.exception.path, caught.exception.word), (path, "kind"))

    def test_right_terms(self):
        for text, kind in RIGHT:
            term = read_term(text)
            if kind is None:
                self.assertEqual(fault_of(term, SCOPE), ((0,), "kind"))
                continue
            self.assertIsNone(fault_of(term, SCOPE), text)
            self.assertEqual(kind_of(term, SCOPE), read_kind(kind), text)

    def test_three_goings_through(self):
        form, twice, free, kind = ("var", 1), ("fn", "x", NUM, ("fn", "x", NUM, ONE)), ("var", "y"), ("count", ONE)
        self.assertEqual(fault_of(("pair", twice, form), ()), ((1,), "form"))
        self.assertEqual(fault_of(("pair", free, form), ()), ((1,), "form"))
        self.assertEqual(fault_of(("pair", kind, form), ()), ((1,), "form"))
        self.assertEqual(fault_of(("pair", kind, twice), ()), ((1, 0), "twice"))
        self.assertEqual(fault_of(("pair", kind, free), ()), ((1,), "free"))
        self.assertEqual(fault_of(("pair", free, twice), ()), ((0,), "free"))
        self.assertEqual(fault_of(("pair", twice, free), ()), ((0, 0), "twice"))
        self.assertEqual(fault_of(("pair", ("pair", form, form), form), ()), ((0, 0), "form"))
        self.assertEqual(fault_of(("prim", "add", (kind, kind)), ()), ((0,), "kind"))
        self.assertEqual(fault_of(("prim", "add", (ONE, kind)), ()), ((1,), "kind"))
        self.assertEqual(fault_of(("prim", "add", (YES, kind)), ()), ((1,), "kind"))
        self.assertEqual(fault_of(("prim", "add", (YES, ONE)), ()), ((), "kind"))
        self.assertEqual(fault_of(("count", ("prim", "add", (("prim", "add", (YES, ONE)), kind))), ()), ((0, 0), "kind"))
        # A form beside a form: writing order, not the order in which terms end.
        self.assertEqual(fault_of(("pair", ("pair", ONE, form), ("digit", 2, 2)), ()), ((0, 1), "form"))

    def test_bad_term(self):
        for value, scope, path, word in ((("var", 1), (), (), "form"), (X, (), (), "free"), (("fn", "x", NUM, X), (("x", NUM),), (), "twice")):
            with self.assertRaises(BadTerm) as caught:
                kind_of(value, scope)
            self.assertEqual((caught.exception.path, caught.exception.word), (path, word))

    def test_random_terms_are_right(self):
        for seed in range(500):
            maker = Maker(seed)
            kind = maker.kind(3)
            scope = {"a": maker.kind(), "b": maker.kind(), "c": maker.kind()}
            term = maker.term(kind, scope, 4)
            self.assertEqual(kind_of(term, tuple(scope.items())), kind)

    def test_one_node_exchanged(self):
        for seed in range(200):
            maker = Maker(seed)
            term = maker.term(maker.kind(2), {"a": NUM}, 3)
            scope = (("a", NUM),)
            for path in paths_of(term):
                self.assertEqual(fault_of(put_at(term, path, ("var", "")), scope), (path, "form"))
                self.assertEqual(fault_of(put_at(term, path, ("var", "zz")), scope), (path, "free"))
                self.assertEqual(fault_of(put_at(term, path, ("fn", "a", NUM, ONE)), scope), (path, "twice"))
                wrong = put_at(term, path, ("first", ("number", 0)))
                self.assertEqual(fault_of(wrong, scope), (path, "kind"))

    def test_deep_terms(self):
        many = 3000
        term = deep_fn(many, ("prim", "add", (("var", "x0"), ("var", "free"))))
        self.assertEqual(fault_of(term, ()), ((0,) * many + (1,), "free"))
        self.assertEqual(fault_of(term, (("free", TRUTH),)), ((0,) * many, "kind"))
        kind = kind_of(term, (("free", NUM),))
        self.assertEqual(kind_text(kind), "num -> " * many + "num")
        again = deep_fn(1, ("number", 1))
        self.assertEqual(kind_of(("pair", again, ONE), (("deep", kind),)), ("both", ("to", NUM, NUM), NUM))
        self.assertEqual(kind_text(kind_of(("if", YES, ("var", "deep"), term), (("deep", kind), ("free", NUM)))), kind_text(kind))
        self.assertEqual(fault_of(put_at(term, (0,) * many, ("digit", 0, 0)), ()), ((0,) * many, "form"))
        self.assertEqual(fault_of(put_at(term, (0,) * many, ("fn", "x7", NUM, ONE)), ()), ((0,) * many, "twice"))

    def test_values_that_are_deep(self):
        value = ()
        for _ in range(190):
            value = (value,)
        self.assertEqual(fault_of(value, ()), ((), "form"))
        self.assertEqual(fault_of(("fn", "x", value, X), ()), ((), "form"))
        self.assertEqual(fault_of((value, 1), ()), ((), "form"))
        self.assertIs(is_program(value), False)


class ProgramTest(unittest.TestCase):
    def test_programs(self):
        for text, menu, result in (
                ("1", (), "num"), ("fn r : rows 2. r[0]", (2,), "few 2"), ("fn r : rows 9. fn s : rows 3. (count(r[0]), s[1])", (9, 3), "num & few 3"),
                ("fn a : rows 2. fn b : rows 3. fn c : rows 4. fn d : rows 5. d[0]", (2, 3, 4, 5), "few 5"),
                ("(fn x : num. x)(1)", (), "num"), ("fn r : rows 2. (fn x : rows 2. x[0])(r)", (2,), "few 2")):
            term = read_term(text)
            self.assertIs(is_program(term), True, text)
            self.assertEqual(menu_of(term), menu)
            self.assertEqual(result_of(term), read_kind(result))

    def test_no_programs(self):
        for text in ("x", "fn x : num. x", "fn r : rows 2. r", "fn r : rows 2. fn x : num. x", "row x of 2. as 2 (x)",
                     "fn r : rows 2. (r, 1)", "fn r : rows 2. x", "fn r : rows 2. r + 1", "fn r : rows 2. fn r : rows 2. 1",
                     "fn a : rows 2. fn b : rows 2. fn c : rows 2. fn d : rows 2. fn e : rows 2. 1", "if 0:2 then fn r : rows 2. 1 else fn s : rows 2. 1",
                     "(fn x : num. fn r : rows 2. 1)(1)", "fn x : num. fn r : rows 2. 1", "fn x : rows 2 & rows 2. 1"):
            self.assertIs(is_program(read_term(text)), False, text)
        for value in NO_TERMS:
            self.assertIs(is_program(value), False)
            self.assertIs(is_program(("fn", "r", ("rows", 2), value)), False)

    def test_random_programs(self):
        for seed in range(200):
            maker = Maker(seed)
            menu = tuple(maker.random.randrange(2, 4) for _ in range(maker.random.randrange(5)))
            kind = maker.plain_kind(2)
            program = maker.program(menu, 3, kind)
            self.assertIs(is_program(program), True)
            self.assertEqual((menu_of(program), result_of(program)), (menu, kind))

    def test_great_programs(self):
        term = ONE
        for _ in range(3000):
            term = with_children(("prim", "add", (ONE, ONE)), (term, ONE))
        program = ("fn", "r", ("rows", 2), term)
        self.assertIs(is_program(program), True)
        self.assertEqual(result_of(program), NUM)
        self.assertEqual(menu_of(program), (2,))
        self.assertEqual(children(term_at(program, (0,)))[1], ONE)


if __name__ == "__main__":
    unittest.main()
