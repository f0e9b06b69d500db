"""Random right terms and trees for tests, from a seed."""

import random

SMALL_NUMBERS = (0, 1, 2, 3, 5, 59, 60, 61, 10 ** 18 - 1)


class Maker:
    """Makes right terms; the names that it binds are all unlike."""

    def __init__(self, seed, quantifiers=True):
        self.random = random.Random(seed)
        self.count = 0
        self.quantifiers = quantifiers

    def name(self):
        self.count += 1
        return f"n{self.count}"

    def plain_kind(self, depth=1):
        word = self.random.choice(("num", "few", "few", "both") if depth else ("num", "few"))
        if word == "both":
            return ("both", self.plain_kind(depth - 1), self.plain_kind(depth - 1))
        return ("num",) if word == "num" else ("few", self.random.choice((2, 2, 3)))

    def kind(self, depth=2):
        word = self.random.choice(("num", "few", "rows", "to", "both") if depth else ("num", "few", "rows"))
        if word in ("to", "both"):
            return (word, self.kind(depth - 1), self.kind(depth - 1))
        if word == "num":
            return ("num",)
        return (word, self.random.choice((2, 2, 3)))

    def term(self, kind, scope, depth):
        """A right term of a kind in a scope, a dict."""
        held = [name for name in scope if scope[name] == kind]
        if held and self.random.random() < (0.8 if kind[0] == "rows" or depth <= 0 else 0.2):
            return ("var", self.random.choice(held))
        if depth <= 0:
            return self.short(kind, scope)
        if self.random.random() < 0.25:
            return self.round_about(kind, scope, depth - 1)
        return getattr(self, kind[0])(kind, scope, depth - 1)

    def short(self, kind, scope):
        if kind[0] == "num":
            return ("number", self.random.choice(SMALL_NUMBERS[:4] * 9 + SMALL_NUMBERS))
        if kind[0] == "few":
            return ("digit", kind[1], self.random.randrange(kind[1]))
        if kind[0] == "both":
            return ("pair", self.short(kind[1], scope), self.short(kind[2], scope))
        name = self.name()
        if kind[0] == "to":
            return ("fn", name, kind[1], self.short(kind[2], scope))
        return ("row", name, kind[1], ("as", kind[1], ("var", name)))

    def round_about(self, kind, scope, depth):
        word = self.random.choice(("if", "call", "first", "second", "repeat"))
        if word == "if":
            return ("if", self.term(("few", 2), scope, depth), self.term(kind, scope, depth), self.term(kind, scope, depth))
        if word == "repeat":
            turn = self.term(("to", kind, kind), scope, depth)
            return ("repeat", ("number", self.random.randrange(4)), turn, self.term(kind, scope, depth))
        other = self.kind(1)
        if word == "call":
            return ("call", self.term(("to", other, kind), scope, depth), self.term(other, scope, depth))
        pair = ("both", kind, other) if word == "first" else ("both", other, kind)
        return (word, self.term(pair, scope, depth))

    def num(self, kind, scope, depth):
        words = ["add", "less", "times", "over", "rest"] + ["count"] * 6
        if self.quantifiers:
            words += ["least", "greatest", "share", "contest"]
        word = self.random.choice(words)
        if word == "count":
            return ("count", self.term(("few", self.random.choice((2, 3))), scope, depth))
        if word in ("least", "greatest", "share", "contest"):
            return self.going(word, scope, depth)
        return ("prim", word, (self.term(kind, scope, depth), self.term(kind, scope, depth)))

    def going(self, word, scope, depth, size=None):
        name = self.name()
        size = size or self.random.choice((2, 2, 3))
        inner = {**scope, name: ("rows", size)}
        if word in ("least", "greatest"):
            return (word, name, size, self.term(("num",), inner, depth))
        if word == "share":
            return (word, name, size, self.term(("few", 2), inner, depth), self.term(("num",), scope, depth))
        if word == "contest":
            move = self.name()
            side = self.term(("few", 2), {**scope, move: ("num",)}, depth)
            return (word, name, size, move, side, self.term(("num",), inner, depth))
        return (word, name, size, self.term(("few", 2), inner, depth))

    def few(self, kind, scope, depth):
        words = ["as"] + ["at"] * 6
        if kind[1] == 2:
            words += ["below", "same"]
            if self.quantifiers:
                words += ["some", "every"]
        word = self.random.choice(words)
        if word == "as":
            return ("as", kind[1], self.term(("num",), scope, depth))
        if word == "at":
            index = self.term(("num",), scope, depth) if self.random.random() < 0.5 else self.short(("num",), scope)
            return ("at", self.term(("rows", kind[1]), scope, depth), index)
        if word in ("some", "every"):
            return self.going(word, scope, depth)
        return ("prim", word, (self.term(("num",), scope, depth), self.term(("num",), scope, depth)))

    def both(self, kind, scope, depth):
        return ("pair", self.term(kind[1], scope, depth), self.term(kind[2], scope, depth))

    def to(self, kind, scope, depth):
        name = self.name()
        return ("fn", name, kind[1], self.term(kind[2], {**scope, name: kind[1]}, depth))

    def rows(self, kind, scope, depth):
        if self.quantifiers and self.random.random() < 0.3:
            return self.going("find", scope, depth, kind[1])
        name = self.name()
        return ("row", name, kind[1], self.term(("few", kind[1]), {**scope, name: ("num",)}, depth))

    def program(self, menu, depth, result=None):
        names = [self.name() for _ in menu]
        scope = {name: ("rows", size) for name, size in zip(names, menu)}
        term = self.term(result or self.plain_kind(), scope, depth)
        for name, size in zip(reversed(names), reversed(menu)):
            term = ("fn", name, ("rows", size), term)
        return term

    def tree(self, menu, places, values, most):
        """A right tree over some places, with at most so many asks on a way."""
        if not places or not most or self.random.random() < 0.15:
            return ("end", self.random.choice(values))
        place = self.random.choice(places)
        others = [other for other in places if other != place]
        branches = [self.tree(menu, others, values, most - 1) for _ in range(menu[place[1]])]
        return ("ask", place, tuple(branches))

    def told(self, size):
        digits = [self.random.randrange(size) for _ in range(self.random.randrange(1, 7))]
        cut = self.random.randrange(len(digits))
        return (tuple(digits[:cut]), tuple(digits[cut:]))
