"""DOC.md [11], [12], [14], [15], [17] of putting in, and the heading allendless/kinds.py."""

import random
import unittest

from allendless.data import data_text
from allendless.errors import NotThere
from allendless.judging import fault_of, kind_of
from allendless.kinds import (
    WORDS, bound_names, children, free_names, is_kind, is_name, is_plain, paths_of, plainly_named, put_at, put_in, same_term,
    term_at, with_children)
from allendless.reader import read_term
from tests.making import Maker
from tests.test_reader import FORMS

NUM = ("num",)
X, Y = ("var", "x"), ("var", "y")
PARTS = {
    "var": (), "digit": (), "number": (), "prim": (1, 1), "as": (1,), "count": (1,), "if": (1, 1, 1), "fn": (1,), "call": (1, 1),
    "pair": (1, 1), "first": (1,), "second": (1,), "repeat": (1, 1, 1), "at": (1, 1), "row": (1,), "some": (1,), "every": (1,),
    "least": (1,), "greatest": (1,), "find": (1,), "share": (1, 1), "contest": (1, 1),
}


def deep_fn(many, body):
    """Functions in one another, so many deep."""
    term = body
    for number in range(many - 1, -1, -1):
        term = with_children(("fn", f"x{number}", NUM, X), (term,))
    return term


class KindTest(unittest.TestCase):
    def test_kinds(self):
        for kind in (NUM, ("few", 1), ("few", 9), ("rows", 2), ("rows", 9), ("to", NUM, NUM), ("both", ("few", 3), ("rows", 3)),
                     ("to", ("to", NUM, ("rows", 4)), ("both", NUM, NUM))):
            self.assertIs(is_kind(kind), True)
            self.assertIs(is_kind(("to", NUM, kind)), True)

    def test_no_kinds(self):
        for value in ((), ("few",), ("few", 0), ("few", 10), ("few", True), ("few", "2"), ("few", 2, 2), ("rows", 1), ("rows", 10), ("rows", 2, 2),
                      ("num", 1), ("to", NUM), ("to", NUM, NUM, NUM), ("both", NUM), "num", 1, None, True, (NUM,), (1, 2), ("nam",),
                      (("num",), NUM, NUM), (None,), ("few", None), ("few", (2,)), ("", NUM, NUM), ("num", ())):
            self.assertIs(is_kind(value), False, value)
            self.assertIs(is_kind(("to", NUM, value)), False)
            self.assertIs(is_kind(("both", value, NUM)), False)

    def test_deep_kinds(self):
        kind = NUM
        for _ in range(99):
            kind = ("both", kind, NUM)
        self.assertIs(is_kind(kind), True)
        self.assertIs(is_plain(kind), True)
        value = ("few", 0)
        for _ in range(99):
            value = ("to", NUM, value)
        self.assertIs(is_kind(value), False)

    def test_plain(self):
        for kind, plain in ((NUM, True), (("few", 1), True), (("rows", 2), False), (("to", NUM, NUM), False),
                            (("both", NUM, ("few", 2)), True), (("both", NUM, ("rows", 2)), False),
                            (("both", ("both", ("to", NUM, NUM), NUM), NUM), False)):
            self.assertIs(is_plain(kind), plain)

    def test_names(self):
        for name in ("a", "z", "a1_", "a" * 20, "fnx", "v0", "m_", "rows2", "or"):
            self.assertIs(is_name(name), True, name)
        for name in ("", "a" * 21, "1a", "_a", "A", "aB", "a b", "a\n", "\u00e9", "a\u0661", "a-", 1, None, True, ("a",), ()):
            self.assertIs(is_name(name), False, name)
        self.assertEqual(len(set(WORDS)), 23)
        for word in ("fn row some every least greatest find share contest if then else first second as count repeat num few rows of "
                     "by times").split():
            self.assertIs(is_name(word), False)


class PartsTest(unittest.TestCase):
    def test_children(self):
        for _, term in FORMS:
            self.assertEqual(len(children(term)), len(PARTS[term[0]]))
            self.assertIs(type(children(term)), tuple)
            self.assertEqual(with_children(term, children(term)), term)
        self.assertEqual(children(("prim", "add", (X, Y))), (X, Y))
        self.assertEqual(children(("share", "r", 2, X, Y)), (X, Y))
        self.assertEqual(children(("contest", "r", 2, "m", X, Y)), (X, Y))
        self.assertEqual(children(("if", X, Y, Y)), (X, Y, Y))

    def test_with_children(self):
        one, two = ("number", 1), ("number", 2)
        self.assertEqual(with_children(("prim", "add", (X, Y)), (one, two)), ("prim", "add", (one, two)))
        self.assertEqual(with_children(("share", "r", 2, X, Y), (one, two)), ("share", "r", 2, one, two))
        self.assertEqual(with_children(("contest", "r", 2, "m", X, Y), (one, two)), ("contest", "r", 2, "m", one, two))
        self.assertEqual(with_children(("fn", "x", NUM, X), (one,)), ("fn", "x", NUM, one))
        self.assertEqual(with_children(X, ()), X)

    def test_paths(self):
        term = read_term("share r of 2 times (a + b). if x then f(y) else z")
        self.assertEqual(paths_of(term), ((), (0,), (0, 0), (0, 1), (0, 1, 0), (0, 1, 1), (0, 2), (1,), (1, 0), (1, 1)))
        self.assertEqual(term_at(term, (0, 1, 1)), Y)
        self.assertEqual(term_at(term, (1, 0)), ("var", "a"))
        self.assertEqual(term_at(term, ()), term)
        self.assertEqual(paths_of(X), ((),))

    def test_put_at(self):
        term = read_term("a + f(b)")
        self.assertEqual(put_at(term, (1, 1), X), read_term("a + f(x)"))
        self.assertEqual(put_at(term, (0,), X), read_term("x + f(b)"))
        self.assertEqual(put_at(term, (), X), X)
        # What is put there is not looked at, and nothing is named anew.
        self.assertEqual(put_at(read_term("fn x : num. a"), (0,), X), read_term("fn x : num. x"))

    def test_paths_that_lead_nowhere(self):
        term = read_term("a + f(b)")
        for path in ((2,), (-1,), (0, 0), (1, 2), (1, -1), (1, 1, 0), (1, -2, 0), (9, 9)):
            for call in (lambda: term_at(term, path), lambda: put_at(term, path, X)):
                with self.assertRaises(NotThere) as caught:
                    call()
                self.assertEqual(caught.exception.path, path)

    def test_all_paths(self):
        for seed in range(100):
            maker = Maker(seed)
            term = maker.term(maker.kind(), {}, 4)
            paths = paths_of(term)
            self.assertEqual(list(paths), sorted(paths))
            for path in paths:
                part = term_at(term, path)
                self.assertEqual(put_at(term, path, part), term)
                self.assertIn(path + (len(children(part)) - 1,), paths + (path + (-1,),))


class NamesTest(unittest.TestCase):
    def test_free(self):
        for text, names in (
                ("a + b * a", ("a", "b")), ("fn x : num. x", ()), ("x((fn x : num. x)(y))", ("x", "y")),
                ("(fn x : num. x)(x)", ("x",)), ("share r of 2 times (r). r", ("r",)), ("share r of 2 times (b). a", ("a", "b")),
                ("contest r of 2 by x (x + r). x + r", ("r", "x")), ("row x of 2. y[x]", ("y",)), ("some r of 2. r[a]", ("a",)),
                ("fn x : num. (fn x : num. x)(x)", ()), ("1", ()), ("b[a]", ("b", "a"))):
            self.assertEqual(free_names(read_term(text)), names, text)

    def test_bound(self):
        for text, names in (
                ("a", ()), ("fn x : num. fn y : num. x", ("x", "y")), ("contest r of 2 by x (fn y : num. y). find z of 2. 1", ("x", "r", "y", "z")),
                ("share r of 2 times (fn a : num. a). fn b : num. b", ("r", "b", "a")), ("(fn x : num. x)(x)", ("x",)),
                ("row b of 2. some a of 2. least c of 2. 1", ("b", "a", "c"))):
            self.assertEqual(bound_names(read_term(text)), names, text)

    def test_plainly_named(self):
        for text, plain in (
                ("fn x : num. fn y : num. x + y", "fn v0 : num. fn v1 : num. v0 + v1"),
                ("contest r of 2 by x (as 2 (x)). count(r[0])", "contest v1 of 2 by v0 (as 2 (v0)). count(v1[0])"),
                ("share r of 2 times (f(fn a : num. a)). f(fn b : num. b)[r[0]]",
                 "share v0 of 2 times (f(fn v2 : num. v2)). f(fn v1 : num. v1)[v0[0]]"),
                ("fn v1 : num. fn v0 : num. v0 + v1", "fn v0 : num. fn v1 : num. v1 + v0"),
                ("fn x : num. fn y : num. x + y + v1", "fn v0 : num. fn v2 : num. v0 + v2 + v1"),
                ("v0(v2, fn x : num. fn y : num. x)" .replace("v2, ", ""), "v0(fn v1 : num. fn v2 : num. v1)"),
                ("(v2, (v0, fn x : num. row y of 2. find z of 2. v5))", "(v2, (v0, fn v1 : num. row v3 of 2. find v4 of 2. v5))"),
                ("x", "x")):
            self.assertEqual(plainly_named(read_term(text)), read_term(plain), text)

    def test_same_up_to_names(self):
        for one, other, same in (
                ("fn x : num. x", "fn y : num. y", True), ("fn x : num. y", "fn y : num. y", False),
                ("fn x : num. y", "fn z : num. y", True), ("fn x : num. y", "fn x : num. z", False),
                ("fn x : num. fn y : num. x", "fn y : num. fn x : num. y", True),
                ("fn x : num. fn y : num. x", "fn y : num. fn x : num. x", False),
                ("fn x : num. x", "fn x : few 2. x", False), ("fn x : num -> num. x", "fn x : num & num. x", False),
                ("some r of 2. r[0]", "every r of 2. r[0]", False), ("row r of 2. a", "row r of 3. a", False),
                ("1:2", "1:3", False), ("1", "2", False), ("a", "a", True), ("a + b", "a - b", False), ("v0", "v1", False),
                ("contest r of 2 by x (as 2 (x)). count(r[0])", "contest x of 2 by r (as 2 (r)). count(x[0])", True)):
            self.assertIs(same_term(read_term(one), read_term(other)), same, (one, other))


class PutInTest(unittest.TestCase):
    def test_example(self):
        term = ("fn", "v", NUM, ("at", ("var", "r"), ("var", "v")))
        other = ("row", "w", 2, ("as", 2, ("var", "v")))
        self.assertEqual(put_in(term, "r", other), (
            "fn", "v0", NUM, ("at", ("row", "v1", 2, ("as", 2, ("var", "v"))), ("var", "v0"))))

    def test_cases(self):
        for term, name, other, wanted in (
                ("x", "x", "1", "1"), ("y", "x", "1", "y"), ("x + x", "x", "x + 1", "(x + 1) + (x + 1)"),
                ("fn a : num. b", "x", "a", "fn v0 : num. b"), ("fn a : num. x + a", "x", "a", "fn v0 : num. a + v0"),
                ("fn v0 : num. x + v0", "x", "v0", "fn v1 : num. v0 + v1"),
                ("fn a : num. fn b : num. x", "x", "v1 + v0", "fn v2 : num. fn v3 : num. v1 + v0"),
                ("f(x)(x)", "x", "fn a : num. a", "f(fn v0 : num. v0)(fn v1 : num. v1)"),
                ("fn a : num. x(a)", "x", "fn a : num. a", "fn v0 : num. (fn v1 : num. v1)(v0)"),
                ("contest r of 2 by y (as 2 (x + y)). x + count(r[0])", "x", "y + count(r[1])",
                 "contest v1 of 2 by v0 (as 2 (y + count(r[1]) + v0)). y + count(r[1]) + count(v1[0])"),
                ("share r of 2 times (x). r[x]", "x", "count(r[0])", "share v0 of 2 times (count(r[0])). v0[count(r[0])]"),
                ("fn a : num. a", "a", "1", "fn v0 : num. v0"), ("x(y)", "x", "y", "y(y)"), ("x(y)", "y", "x", "x(x)"),
                ("x[v0]", "x", "row i of 2. as 2 (i)", "(row v1 of 2. as 2 (v1))[v0]")):
            made = put_in(read_term(term), name, read_term(other))
            if term != "contest r of 2 by y (as 2 (x + y)). x + count(r[0])":
                self.assertEqual(made, read_term(wanted), (term, name, other))
            else:
                self.assertEqual(made, put_in(read_term(wanted.replace("y + count(r[1])", "z")), "z", read_term(other)))
                self.assertEqual(free_names(made), ("y", "r"))
                self.assertEqual(bound_names(made), ("v0", "v1"))

    def test_kinds_stay(self):
        for seed in range(300):
            maker = Maker(seed)
            outer = {"x": maker.kind(), "y": maker.kind(), "v0": NUM, "v2": ("few", 2), "v3": ("rows", 2)}
            inner = {name: outer[name] for name in outer if name != "x"}
            kind = maker.kind()
            term = maker.term(kind, outer, 4)
            other = maker.term(outer["x"], inner, 3)
            made = put_in(term, "x", other)
            free = free_names(made)
            scope = tuple((name, inner[name]) for name in free)
            self.assertEqual(kind_of(made, scope), kind)
            self.assertEqual(plainly_named(made), made)
            expected = [name for name in free_names(term) if name != "x"]
            if "x" in free_names(term):
                expected += free_names(other)
            else:
                self.assertEqual(made, plainly_named(term))
            self.assertEqual(sorted(free), sorted(set(expected)))
            self.assertFalse(set(free) & set(bound_names(made)))

    def test_puttings_in_do_not_meet(self):
        for seed in range(300):
            maker = Maker(seed)
            scope = {"x": NUM, "y": ("rows", 2), "v0": ("few", 2)}
            term = maker.term(maker.kind(), scope, 4)
            one = maker.term(NUM, {"v0": ("few", 2)}, 3)
            other = maker.term(("rows", 2), {"v0": ("few", 2)}, 3)
            self.assertEqual(put_in(put_in(term, "x", one), "y", other), put_in(put_in(term, "y", other), "x", one))

    def test_plain_names_of_random_terms(self):
        chance = random.Random(3)
        for seed in range(300):
            maker = Maker(seed)
            scope = {"v0": NUM, "v1": ("rows", 2), "v3": ("few", 2)}
            term = maker.term(maker.kind(), scope, 4)
            plain = plainly_named(term)
            self.assertIs(same_term(term, plain), True)
            self.assertEqual(free_names(term), free_names(plain))
            names = [name for name in (f"v{number}" for number in range(400)) if name not in free_names(term)]
            self.assertEqual(list(bound_names(plain)), names[:len(bound_names(plain))])
            # Other names for what is bound change nothing.
            names = [f"w{number}" for number in range(len(bound_names(term)))]
            chance.shuffle(names)
            self.assertEqual(plainly_named(renamed(term, dict(zip(bound_names(term), names)))), plain)
            held = tuple((name, scope[name]) for name in free_names(term))
            self.assertEqual(kind_of(plain, held), kind_of(term, held))


def renamed(term, names):
    """A term with other names for those that it binds."""
    if isinstance(term, tuple):
        if term[:1] == ("number",) or term[:1] == ("num",):
            return term
        return tuple(names.get(part, part) if isinstance(part, str) and at else renamed(part, names)
                     for at, part in enumerate(term))
    return term


class DeepTest(unittest.TestCase):
    def test_deep_terms(self):
        many = 3000
        term = deep_fn(many, ("prim", "add", (("var", "x0"), ("var", "free"))))
        self.assertEqual(free_names(term), ("free",))
        self.assertEqual(len(bound_names(term)), many)
        plain = plainly_named(term)
        self.assertEqual(bound_names(plain), tuple(f"v{number}" for number in range(many)))
        self.assertIs(same_term(term, plain), True)
        self.assertEqual(term_at(plain, (0,) * many), ("prim", "add", (("var", "v0"), ("var", "free"))))
        self.assertEqual(len(paths_of(term)), many + 3)
        made = put_in(term, "free", ("var", "v5"))
        self.assertEqual(term_at(made, (0,) * many), ("prim", "add", (("var", "v0"), ("var", "v5"))))
        self.assertEqual(bound_names(made)[5], "v6")
        self.assertEqual(term_at(put_at(term, (0,) * many, X), (0,) * many), X)
        self.assertIs(same_term(put_at(term, (0,) * many, X), put_at(plain, (0,) * many, X)), True)
        self.assertIs(same_term(term, deep_fn(many, ("number", 1))), False)
        with self.assertRaises(NotThere):
            term_at(term, (0,) * many + (2,))

    def test_put_in_again_and_again(self):
        outer = read_term("(fn a : num. a + x - b)(1)")
        term = X
        for _ in range(700):
            term = put_in(outer, "x", term)
        self.assertEqual(free_names(term), ("x", "b"))
        self.assertEqual(bound_names(term), tuple(f"v{number}" for number in range(700)))
        self.assertEqual(data_text(plainly_named(term)), data_text(term))
        self.assertEqual(kind_of(term, (("x", NUM), ("b", NUM))), NUM)
        self.assertEqual(fault_of(term, (("x", NUM),)), ((0, 0, 0, 1) * 699 + (0, 0, 1), "free"))


if __name__ == "__main__":
    unittest.main()
