"""DOC.md [9], [10], and the heading allendless/writer.py."""

import unittest

from allendless.data import data_text
from allendless.errors import BadText
from allendless.kinds import with_children
from allendless.lexer import tokens_of
from allendless.reader import read_kind, read_term
from allendless.writer import kind_text, term_text
from tests.making import Maker
from tests.test_reader import FORMS, KINDS

X = ("var", "x")
# Terms by their levels (TERM, TEST, SUM, PRODUCT, POST, PLAIN), and places in forms by the levels wanted.
LEVELS = (
    ("fn x : num. x", "row x of 2. x", "some x of 2. x", "every x of 2. x", "least x of 2. x", "greatest x of 2. x",
     "find x of 2. x", "share x of 2 times (x). x", "contest x of 2 by y (x). x", "if x then x else x"),
    ("x < x", "x = x"),
    ("x + x", "x - x"),
    ("x * x", "x / x", "x | x"),
    ("x(x)", "x[x]"),
    ("x", "1", "1:2", "(x, x)", "first(x)", "second(x)", "count(x)", "as 2 (x)", "repeat(x, x, x)"),
)
PLACES = (
    ("fn y : num. @", 0), ("row y of 2. @", 0), ("some y of 2. @", 0), ("every y of 2. @", 0), ("least y of 2. @", 0),
    ("greatest y of 2. @", 0), ("find y of 2. @", 0), ("share y of 2 times (@). x", 0), ("share y of 2 times (x). @", 0),
    ("contest y of 2 by z (@). x", 0), ("contest y of 2 by z (x). @", 0), ("if @ then x else x", 0),
    ("if x then @ else x", 0), ("if x then x else @", 0), ("@ < x", 2), ("x < @", 2), ("@ = x", 2), ("x = @", 2),
    ("@ + x", 2), ("x + @", 3), ("@ - x", 2), ("x - @", 3), ("@ * x", 3), ("x * @", 4), ("@ / x", 3), ("x / @", 4),
    ("@ | x", 3), ("x | @", 4), ("@(x)", 4), ("x(@)", 0), ("@[x]", 4), ("x[@]", 0), ("(@, x)", 0), ("(x, @)", 0),
    ("first(@)", 0), ("second(@)", 0), ("count(@)", 0), ("as 2 (@)", 0), ("repeat(@, x, x)", 0), ("repeat(x, @, x)", 0),
    ("repeat(x, x, @)", 0),
)
KIND_LEVELS = (("num -> num",), ("num & num",), ("num", "few 2", "rows 2"))
KIND_PLACES = (("@ -> num", 1), ("num -> @", 0), ("@ & num", 1), ("num & @", 2))


def pairs_of(text):
    """The places of the signs ( and ) that belong together."""
    found, around = [], []
    for at, sign in enumerate(text):
        if sign == "(":
            around.append(at)
        elif sign == ")":
            found.append((around.pop(), at))
    return found


def is_blank_wanted(tokens, at):
    """Whether [9] wants a blank ahead of token number `at`: from the tokens around it alone."""
    last, token = tokens[at - 1], tokens[at]
    if last in ("(", "[") or token in (")", "]", ",", ".", "["):
        return False
    if token == ":" or last == ":":
        name = tokens[at - 1] if token == ":" else tokens[at - 2]
        return not isinstance(name, int)
    if token != "(":
        return True
    if last in ("first", "second", "count", "repeat", ")", "]"):
        return False
    if isinstance(last, int):
        return tokens[at - 2] == "as"
    return not isinstance(last, str) or tokens[at - 2] == "by" or not last[0].isalpha() or last in (
        "if", "then", "else", "times")


class WriterTest(unittest.TestCase):
    def test_examples(self):
        for text in ("every r of 2. some s of 3. count(r[0]) = count(s[1]) | 2", "(fn x : num. x + (1 + 2))(3)", "as 2 (x)",
                     "share r of 2 times (3). t", "contest r of 2 by x (w). t"):
            self.assertEqual(term_text(read_term(text)), text)
        self.assertEqual(term_text(read_term("(fn x : num. x + (1 + 2)) (3)")), "(fn x : num. x + (1 + 2))(3)")
        self.assertEqual(kind_text(read_kind("(num -> num) -> num & few 2")), "(num -> num) -> num & few 2")

    def test_forms(self):
        for text, term in FORMS:
            self.assertEqual(term_text(term), text)
        for text, kind in KINDS:
            self.assertEqual(kind_text(kind), text)
            self.assertEqual(term_text(("fn", "x", kind, X)), f"fn x : {text}. x")

    def test_each_level_at_each_place(self):
        for place, wanted in PLACES:
            for level, texts in enumerate(LEVELS):
                for text in texts:
                    inner = f"({text})" if level < wanted else text
                    whole = place.replace("@", inner)
                    self.assertEqual(term_text(read_term(place.replace("@", f"({text})"))), whole)
                    self.assertEqual(term_text(read_term(whole)), whole)

    def test_each_kind_at_each_place(self):
        for place, wanted in KIND_PLACES:
            for level, texts in enumerate(KIND_LEVELS):
                for text in texts:
                    inner = f"({text})" if level < wanted else text
                    self.assertEqual(kind_text(read_kind(place.replace("@", f"({text})"))), place.replace("@", inner))

    def test_spaces(self):
        text = term_text(read_term("(fn  x:num&(num->few 2).(x+(1:2))[(0,x)])((1))"))
        self.assertEqual(text, "(fn x : num & (num -> few 2). (x + 1:2)[(0, x)])(1)")
        self.assertEqual(term_text(read_term("x*(if(x)then((x,x))else x(1))")), "x * (if x then (x, x) else x(1))")

    def test_random_terms(self):
        for seed in range(600):
            maker = Maker(seed)
            term = maker.term(maker.kind(), {}, 4)
            text = term_text(term)
            if len(text) > 1500:
                continue
            self.check_text(text, term, term_text, read_term)

    def test_random_kinds(self):
        for seed in range(300):
            kind = Maker(seed).kind(5)
            self.check_text(kind_text(kind), kind, kind_text, read_kind)

    def check_text(self, text, term, write, read):
        try:
            self.assertEqual(read(text), term)
        except ValueError:
            return
        tokens = [token for _, token, _ in tokens_of(text)][:-1]
        spaced = str(tokens[0])
        for at in range(1, len(tokens)):
            spaced += (" " if is_blank_wanted(tokens, at) else "") + str(tokens[at])
        self.assertEqual(text, spaced)
        for begin, end in pairs_of(text):
            less = text[:begin] + " " + text[begin + 1:end] + " " + text[end + 1:]
            try:
                self.assertNotEqual(read(less), term, (text, less))
            except BadText:
                pass

    def test_deep_terms_and_kinds(self):
        term, kind = X, ("num",)
        for _ in range(6000):
            term = with_children(("call", X, X), (term, X))
            kind = ("both", kind, ("num",))
        self.assertEqual(term_text(term), "x" + "(x)" * 6000)
        self.assertEqual(kind_text(kind), "num" + " & num" * 6000)
        term = X
        for _ in range(6000):
            term = with_children(("prim", "less", (X, X)), (X, term))
        self.assertEqual(term_text(term), "x - (" * 5999 + "x - x" + ")" * 5999)
        self.assertEqual(len(data_text(term)) > 6000, True)


if __name__ == "__main__":
    unittest.main()
