"""DOC.md [7], [8], [10], and the heading allendless/reader.py."""

import random
import unittest

from allendless.errors import BadText
from allendless.kinds import WORDS
from allendless.lexer import scanned
from allendless.reader import read_kind, read_term
from allendless.writer import kind_text, term_text
from tests.grammar import wrong_at
from tests.making import Maker
from tests.wrong import position_of, what_of

A, B, C = ("var", "a"), ("var", "b"), ("var", "c")
NUM = ("num",)


def prim(word, left, right):
    return ("prim", word, (left, right))


FORMS = (
    ("a", A),
    ("2:3", ("digit", 3, 2)),
    ("0:1", ("digit", 1, 0)),
    ("8:9", ("digit", 9, 8)),
    ("0", ("number", 0)),
    ("999999999999999999", ("number", 10 ** 18 - 1)),
    ("a + b", prim("add", A, B)),
    ("a - b", prim("less", A, B)),
    ("a * b", prim("times", A, B)),
    ("a / b", prim("over", A, B)),
    ("a | b", prim("rest", A, B)),
    ("a < b", prim("below", A, B)),
    ("a = b", prim("same", A, B)),
    ("as 1 (a)", ("as", 1, A)),
    ("as 9 (a)", ("as", 9, A)),
    ("count(a)", ("count", A)),
    ("if a then b else c", ("if", A, B, C)),
    ("fn x : num. a", ("fn", "x", NUM, A)),
    ("a(b)", ("call", A, B)),
    ("(a, b)", ("pair", A, B)),
    ("first(a)", ("first", A)),
    ("second(a)", ("second", A)),
    ("repeat(a, b, c)", ("repeat", A, B, C)),
    ("a[b]", ("at", A, B)),
    ("row x of 2. a", ("row", "x", 2, A)),
    ("some x of 9. a", ("some", "x", 9, A)),
    ("every x of 3. a", ("every", "x", 3, A)),
    ("least x of 3. a", ("least", "x", 3, A)),
    ("greatest x of 3. a", ("greatest", "x", 3, A)),
    ("find x of 3. a", ("find", "x", 3, A)),
    ("share x of 3 times (b). a", ("share", "x", 3, A, B)),
    ("contest x of 3 by y (a). b", ("contest", "x", 3, "y", A, B)),
)
KINDS = (
    ("num", NUM),
    ("few 1", ("few", 1)),
    ("few 9", ("few", 9)),
    ("rows 2", ("rows", 2)),
    ("num -> few 2", ("to", NUM, ("few", 2))),
    ("num & few 2", ("both", NUM, ("few", 2))),
    ("num -> num -> num", ("to", NUM, ("to", NUM, NUM))),
    ("(num -> num) -> num", ("to", ("to", NUM, NUM), NUM)),
    ("num & num & num", ("both", ("both", NUM, NUM), NUM)),
    ("num & (num & num)", ("both", NUM, ("both", NUM, NUM))),
    ("num & num -> num & num", ("to", ("both", NUM, NUM), ("both", NUM, NUM))),
    ("num & (num -> num)", ("both", NUM, ("to", NUM, NUM))),
    ("(num -> num) -> num & few 2", ("to", ("to", NUM, NUM), ("both", NUM, ("few", 2)))),
)


class ReadTest(unittest.TestCase):
    def test_forms(self):
        for text, term in FORMS:
            self.assertEqual(read_term(text), term)
            self.assertEqual(read_term(f"(({text}))"), term)

    def test_kinds(self):
        for text, kind in KINDS:
            self.assertEqual(read_kind(text), kind)
            self.assertEqual(read_kind(f"(({text}))"), kind)
            self.assertEqual(read_term(f"fn x:{text}.a"), ("fn", "x", kind, A))

    def test_left_and_right(self):
        self.assertEqual(read_term("a - b - c"), prim("less", prim("less", A, B), C))
        self.assertEqual(read_term("a / b | c * a"), prim("times", prim("rest", prim("over", A, B), C), A))
        self.assertEqual(read_term("a + b * c"), prim("add", A, prim("times", B, C)))
        self.assertEqual(read_term("a + b < c * a"), prim("below", prim("add", A, B), prim("times", C, A)))
        self.assertEqual(read_term("a(b)[c](a)"), ("call", ("at", ("call", A, B), C), A))
        self.assertEqual(read_term("a * b(c)"), prim("times", A, ("call", B, C)))

    def test_as_far_to_the_right_as_it_can(self):
        self.assertEqual(read_term("fn x : num. a + b"), ("fn", "x", NUM, prim("add", A, B)))
        self.assertEqual(read_term("some r of 2. a < b"), ("some", "r", 2, prim("below", A, B)))
        self.assertEqual(read_term("if a then b else c(a)"), ("if", A, B, ("call", C, A)))
        self.assertEqual(read_term("if a then if b then a else b else c"), ("if", A, ("if", B, A, B), C))
        self.assertEqual(read_term("if fn x:num.a then b else c = a"), ("if", ("fn", "x", NUM, A), B, prim("same", C, A)))
        self.assertEqual(read_term("share r of 2 times (a). b + c"), ("share", "r", 2, prim("add", B, C), A))
        self.assertEqual(read_term("(fn x : num. a, b)"), ("pair", ("fn", "x", NUM, A), B))
        self.assertEqual(read_term("a[fn x : num. b](c)"), ("call", ("at", A, ("fn", "x", NUM, B)), C))

    def test_what_is_left_out(self):
        self.assertEqual(read_term(" \n# fn (\n a#b\n+ b # ) \n"), prim("add", A, B))
        self.assertEqual(read_term("a+b"), prim("add", A, B))
        self.assertEqual(read_term("fnx"), ("var", "fnx"))
        self.assertEqual(read_kind("num->num"), ("to", NUM, NUM))

    def test_kinds_and_scopes_are_not_looked_at(self):
        self.assertEqual(read_term("1(2)[3:4]"), ("at", ("call", ("number", 1), ("number", 2)), ("digit", 4, 3)))
        self.assertEqual(read_term("fn x:num. fn x:num. y"), ("fn", "x", NUM, ("fn", "x", NUM, ("var", "y"))))


class WrongTest(unittest.TestCase):
    def test_examples(self):
        for text, position in (
                ("(1, 2, 3)", (1, 6)), ("fn x : num x", (1, 12)), ("1 < 2 < 3", (1, 7)), ("if 1", (1, 5)), ("3:3", (1, 3)),
                ("9:9", (1, 2)), ("12:5", (1, 3))):
            self.assertEqual(position_of(read_term, text), position, text)

    def test_terms(self):
        for text, position in (
                ("", (1, 1)), ("\n # a", (2, 5)), ("a b", (1, 3)), ("a\nb", (2, 1)), ("a +", (1, 4)), ("a + fn x : num. a", (1, 5)),
                ("a = b = c", (1, 7)), ("a < b = c", (1, 7)), ("(a", (1, 3)), ("a)", (1, 2)), ("()", (1, 2)), ("(a,)", (1, 4)),
                ("a()", (1, 3)), ("a[]", (1, 3)), ("a[b)", (1, 4)), ("a[b, c]", (1, 4)), ("first a", (1, 7)),
                ("first(a, b)", (1, 8)), ("repeat(a, b)", (1, 12)), ("repeat(a, b, c, a)", (1, 15)), ("as (a)", (1, 4)),
                ("as 0 (a)", (1, 4)), ("as 10 (a)", (1, 4)), ("as 2", (1, 5)), ("row x of 1. a", (1, 10)),
                ("row x of 10. a", (1, 10)), ("row x : num. a", (1, 7)), ("some then of 2. a", (1, 6)), ("some 2 of 2. a", (1, 6)),
                ("share r of 2. a", (1, 13)), ("share r of 2 times a. b", (1, 20)), ("contest r of 2 (a). b", (1, 16)),
                ("contest r of 2 by 1 (a). b", (1, 19)), ("if a then b", (1, 12)), ("if a else b", (1, 6)), ("then", (1, 1)),
                ("num", (1, 1)), ("0:0", (1, 3)), ("8:10", (1, 3)), ("2:2", (1, 3)), ("2:x", (1, 3)), ("2 : 1", (1, 5)),
                ("2:", (1, 3)), ("a:b", (1, 2)), ("- a", (1, 1)), ("a -> b", (1, 3)), ("fn x : few 0. a", (1, 12)),
                ("fn x : few 10. a", (1, 12)), ("fn x : rows 1. a", (1, 13)), ("fn x : a. a", (1, 8)), ("fn x : num & . a", (1, 14)),
                ("fn x : num -> num & num -> (num. a", (1, 32)), ("a" * 21, (1, 1)), ("fn " + "a" * 21 + " : num. a", (1, 4)),
                ("1 2", (1, 3)), ("a , b", (1, 3)), ("count", (1, 6)), ("of", (1, 1)), ("a 1:2", (1, 3))):
            self.assertEqual(position_of(read_term, text), position, text)

    def test_kinds(self):
        for text, position in (
                ("", (1, 1)), ("few", (1, 4)), ("few 0", (1, 5)), ("few 10", (1, 5)), ("rows 1", (1, 6)), ("rows 10", (1, 6)),
                ("num ->", (1, 7)), ("num & & num", (1, 7)), ("(num", (1, 5)), ("num)", (1, 4)), ("num num", (1, 5)),
                ("num - > num", (1, 5)), ("x", (1, 1)), ("num & (num -> ) & num", (1, 15)), ("fn", (1, 1))):
            self.assertEqual(position_of(read_kind, text), position, text)

    def test_characters_and_tokens_whichever_comes_first(self):
        self.assertEqual(position_of(read_term, "a b !"), (1, 3))
        self.assertEqual(position_of(read_term, "a ! b b"), (1, 3))
        self.assertEqual(position_of(read_term, "a !"), (1, 3))
        self.assertEqual(position_of(read_term, "a\n+ 007"), (2, 3))
        self.assertEqual(position_of(read_term, "a > b"), (1, 3))
        self.assertEqual(position_of(read_term, "a # \u00e9"), (1, 5))
        self.assertEqual(position_of(read_kind, "num ?"), (1, 5))
        self.assertEqual(position_of(read_term, "1" * 19), (1, 1))

    def test_words_of_the_language_are_no_names(self):
        for word in WORDS:
            self.assertEqual(position_of(read_term, f"fn {word} : num. a"), (1, 4))
            self.assertEqual(read_term(word + "x"), ("var", word + "x"))
            if word not in ("fn", "row", "some", "every", "least", "greatest", "find", "share", "contest", "if"):
                if word not in ("first", "second", "as", "count", "repeat"):
                    self.assertEqual(position_of(read_term, word), (1, 1))
            self.assertEqual(read_term("a" * 20), ("var", "a" * 20))

    def test_against_the_grammar(self):
        chance = random.Random(7)
        words = list(WORDS) + "( ) [ ] , . : & < = + - * / | -> x y 0 1 2 3 9 10".split() + ["!", "A"]
        for seed in range(1500):
            maker = Maker(seed)
            text = term_text(maker.term(maker.kind(), {}, 3))
            start = "TERM"
            if seed % 5 == 0:
                text = kind_text(maker.kind(4))
                start = "KIND"
            tokens = [str(token) for _, token, _ in scanned(text)[:-1]][:40]
            for _ in range(chance.randrange(3)):
                at = chance.randrange(len(tokens))
                tokens[at:at + chance.randrange(2)] = [chance.choice(words)] * chance.randrange(2)
                tokens = tokens or ["x"]
            text = "".join(token + chance.choice((" ", " ", "\n", " # x\n")) for token in tokens)
            reader = read_term if start == "TERM" else read_kind
            try:
                reader(text)
                found = None
            except BadText as error:
                found = error.position
            self.assertEqual(found, wrong_at(text, start), text)


class BoundsTest(unittest.TestCase):
    def test_text(self):
        self.assertEqual(read_term("a" + " " * 19999), A)
        self.assertEqual(read_kind("num" + " " * 19997), NUM)
        self.assertEqual(what_of(read_term, "a" + " " * 20000), "text")
        self.assertEqual(what_of(read_kind, "(" * 20001), "text")
        self.assertEqual(what_of(read_term, "!" + "(" * 20000), "text")

    def test_open_brackets(self):
        self.assertEqual(read_term("(" * 40 + "a" + ")" * 40), A)
        self.assertEqual(read_kind("(" * 40 + "num" + ")" * 40), NUM)
        self.assertEqual(what_of(read_term, "(" * 41 + "a" + ")" * 41), "depth")
        self.assertEqual(what_of(read_kind, "(" * 41 + "num" + ")" * 41), "depth")
        self.assertEqual(what_of(read_term, "[" * 20 + "if " * 21), "depth")
        self.assertEqual(position_of(read_term, "[" * 20 + "if " * 20), (1, 1))
        self.assertEqual(what_of(read_kind, "if " * 41), "depth")
        self.assertEqual(position_of(read_kind, "if " * 40), (1, 1))

    def test_closed_ones_are_no_longer_open(self):
        self.assertGreater(wide_text(199).count("("), 41)
        self.assertEqual(read_term(wide_text(199))[0], "pair")
        self.assertEqual(what_of(read_term, "a" + "[b]" * 60), "term")
        self.assertEqual(what_of(read_term, "a" + "(b)" * 60), "term")
        self.assertEqual(what_of(read_term, "if a then b else " * 60 + "c"), "term")
        self.assertEqual(position_of(read_term, ")" * 5 + "(" * 45), (1, 1))
        self.assertEqual(what_of(read_term, ")" * 5 + "(" * 46), "depth")
        self.assertEqual(position_of(read_term, "]" + "else " + "(" * 42), (1, 1))
        self.assertEqual(what_of(read_term, "]" + "else " + "(" * 43), "depth")
        # What closes is not asked what it closes.
        self.assertEqual(position_of(read_term, "(" * 40 + "]" + "("), (1, 41))
        self.assertEqual(what_of(read_term, "(" * 40 + "](("), "depth")

    def test_only_ahead_of_the_first_bad_character(self):
        self.assertEqual(position_of(read_term, "! " + "(" * 41), (1, 1))
        self.assertEqual(position_of(read_term, "(" * 40 + "!" + "("), (1, 41))
        self.assertEqual(what_of(read_term, "(" * 41 + "!"), "depth")
        self.assertEqual(what_of(read_term, "a a " + "(" * 41 + "!"), "depth")
        self.assertEqual(position_of(read_term, "# \t\n" + "(" * 41), (1, 3))
        self.assertEqual(position_of(read_term, "00" + "(" * 41), (1, 1))

    def test_nodes(self):
        self.assertEqual(what_of(read_term, "+".join(["a"] * 2)), None)
        for many, what in ((199, None), (200, "term")):
            # A balanced tree of calls would be shorter than it is deep; a row of 21 pairs is enough here.
            self.assertEqual(what_of(read_term, wide_text(many + 1)), what)

    def test_depth_of_terms(self):
        for many, what in ((40, None), (41, "term")):
            self.assertEqual(what_of(read_term, "fn x : num. " * many + "a"), what)
            self.assertEqual(what_of(read_term, "a" + "(b)" * many), what)
            self.assertEqual(what_of(read_term, "a" + " + b" * many), what)
            self.assertEqual(what_of(read_term, "if a then b else " * many + "c"), what)

    def test_depth_of_kinds(self):
        for many, what in ((39, None), (40, "kind")):
            self.assertEqual(what_of(read_kind, "num -> " * many + "num"), what)
            self.assertEqual(what_of(read_kind, "num" + " & num" * many), what)
        self.assertEqual(what_of(read_term, "fn x : " + "num -> " * 100 + "num. x"), None)

    def test_bad_text_comes_ahead_of_the_bounds_of_the_term(self):
        self.assertEqual(position_of(read_term, "fn x : num. " * 50), (1, 601))
        self.assertEqual(position_of(read_kind, "num -> " * 50), (1, 351))

    def test_long_texts(self):
        self.assertEqual(what_of(read_term, "a" + "(b)" * 6000), "term")
        self.assertEqual(what_of(read_term, "a" + "+b" * 9000), "term")
        self.assertEqual(what_of(read_term, "fn x:num." * 2000 + "a"), "term")
        self.assertEqual(what_of(read_kind, "num->" * 3500 + "num"), "kind")
        self.assertEqual(what_of(read_kind, "num" + "&num" * 4500), "kind")
        text = "fn x : " + "num -> " * 2500 + "num. x"
        self.assertEqual(term_text(read_term(text)), text)
        self.assertEqual(position_of(read_term, "a" + "(b)" * 6000 + "]"), (1, 18002))


def wide_text(nodes):
    """A text of a term with so many nodes (an odd number, or with one count), not deep."""
    if nodes == 1:
        return "a"
    if nodes % 2 == 0:
        return f"count({wide_text(nodes - 1)})"
    left = (nodes - 1) // 2
    return f"({wide_text(left)}, {wide_text(nodes - 1 - left)})"


if __name__ == "__main__":
    unittest.main()
