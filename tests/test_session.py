"""DOC.md part Q, [116] and [117], with [7], [11], [14], [15], and the heading allendless/session.py."""

import random
import unittest

from allendless.errors import AllendlessError
from allendless.judging import kind_of
from allendless.kinds import free_names, plainly_named, put_in, written
from allendless.plain import value_of
from allendless.reader import read_term
from allendless.session import Session
from tests.wrong import told_by

ONE = ("number", 1)


def session_of(*definitions):
    session = Session()
    for name, text in definitions:
        session.define(name, read_term(text))
    return session


def closed_by(definitions, term):
    """The closed form by its words: each definition is put in, the last one first."""
    for name, told in definitions[::-1]:
        term = put_in(term, name, told)
    return plainly_named(term)


class Model:
    """A session as plainly as can be: lists of definitions, copied whole."""

    def __init__(self):
        self.now, self.past, self.coming, self.around = [], [], [], []

    def change(self, now):
        self.past, self.coming, self.now = self.past + [self.now], [], now

    def enter(self):
        self.around.append((list(self.now), list(self.past), list(self.coming)))

    def leave(self):
        self.now, self.past, self.coming = self.around.pop()

    def undo(self):
        if not self.past:
            return "NothingToUndo"
        self.coming, self.now, self.past = self.coming + [self.now], self.past[-1], self.past[:-1]
        return None

    def redo(self):
        if not self.coming:
            return "NothingToRedo"
        self.past, self.now, self.coming = self.past + [self.now], self.coming[-1], self.coming[:-1]
        return None

    def drop(self):
        if not self.now:
            return "NothingDefined"
        self.change(self.now[:-1])
        return None

    def define(self, name, term):
        if name in [other for other, _ in self.now]:
            return "NameTaken"
        if any(free not in [other for other, _ in self.now] for free in free_names(term)):
            return "Unknown"
        self.change(self.now + [(name, term)])
        return None


class ChangeTest(unittest.TestCase):
    def test_definitions(self):
        session = session_of(("a", "1"), ("b", "a + a"))
        self.assertEqual(session.definitions(), (("a", ONE), ("b", read_term("a + a"))))
        self.assertEqual(len(session), 2)
        self.assertIsNone(session.drop())
        self.assertEqual(session.definitions(), (("a", ONE),))
        self.assertIsNone(session.undo())
        self.assertEqual([name for name, _ in session.definitions()], ["a", "b"])
        self.assertIsNone(session.undo())
        self.assertIsNone(session.undo())
        self.assertEqual(session.definitions(), ())
        self.assertIsNone(session.redo())
        self.assertIsNone(session.define("c", ONE))
        self.assertEqual([name for name, _ in session.definitions()], ["a", "c"])
        self.assertEqual(told_by(session.redo), ("NothingToRedo",))

    def test_nothing_to_do(self):
        session = Session()
        self.assertEqual(len(session), 0)
        self.assertEqual(told_by(session.drop), ("NothingDefined",))
        self.assertEqual(told_by(session.undo), ("NothingToUndo",))
        self.assertEqual(told_by(session.redo), ("NothingToRedo",))
        session.define("a", ONE)
        self.assertEqual(told_by(session.redo), ("NothingToRedo",))
        session.undo()
        self.assertEqual(told_by(session.undo), ("NothingToUndo",))
        self.assertEqual(told_by(session.drop), ("NothingDefined",))
        # What failed has changed nothing, and left what there is to redo.
        session.redo()
        self.assertEqual(session.definitions(), (("a", ONE),))

    def test_errors_change_nothing(self):
        session = session_of(("a", "1"), ("b", "2"))
        session.undo()
        great = ONE
        for _ in range(100):
            great = ("prim", "add", (great, ("var", "a")))
        for name, term, word in (("a", ONE, "NameTaken"), ("fn", ONE, "BadName"), ("c", ("var", "d"), "Unknown"),
                                 ("c", ("call", ONE, ONE), "BadTerm"), ("c", great, "TooGreat")):
            self.assertEqual(told_by(session.define, name, term)[0], word)
            self.assertEqual(session.definitions(), (("a", ONE),))
        session.redo()
        self.assertEqual(len(session), 2)

    def test_random_changes(self):
        # Define, drop, undo, redo in all orders, in and out of with blocks, against the model.
        for seed in range(150):
            rng = random.Random(seed)
            session, model = Session(), Model()
            self.steps(rng, session, model, 40, 0)
            self.check(session, model)

    def steps(self, rng, session, model, many, depth):
        for _ in range(many):
            word = rng.choice(("define", "define", "define", "drop", "undo", "undo", "redo", "redo", "with"))
            if word == "with":
                if depth < 3:
                    self.block(rng, session, model, depth)
            elif word == "define":
                name, text = rng.choice("abcd"), rng.choice(("1", "a", "a + b", "(fn a : num. a + 1)(2)", "c"))
                told = model.define(name, read_term(text))
                self.do(lambda: session.define(name, read_term(text)), told)
            else:
                self.do(getattr(session, word), getattr(model, word)())
            self.check(session, model)

    def block(self, rng, session, model, depth):
        model.enter()
        try:
            with session as held:
                self.assertIs(held, session)
                self.steps(rng, session, model, 6, depth + 1)
                if rng.random() < 0.3:
                    raise KeyError("left by an error")
        except KeyError:
            pass
        model.leave()

    def do(self, call, told):
        if told is None:
            self.assertIsNone(call())
        else:
            self.assertEqual(told_by(call)[0], told)

    def check(self, session, model):
        self.assertEqual(session.definitions(), tuple(model.now))
        self.assertEqual(len(session), len(model.now))


class NameTest(unittest.TestCase):
    def test_order_of_errors(self):
        session = session_of(("a", "1"))
        for name in ("", "1a", "A", "fn", "times", "a b", "x" * 21, "_a", "a-b", "\u00e9"):
            self.assertEqual(told_by(session.define, name, ("var", "zz")), ("BadName", name))
        self.assertEqual(told_by(session.define, "a", ("var", "zz")), ("NameTaken", "a"))
        self.assertEqual(told_by(session.define, "b", read_term("zz + yy")), ("Unknown", "zz"))
        self.assertEqual(told_by(session.define, "b", read_term("b + 1")), ("Unknown", "b"))
        self.assertEqual(told_by(session.define, "b", read_term("1(a)(zz)")), ("Unknown", "zz"))
        self.assertEqual(told_by(session.define, "b", read_term("1(a)")), ("BadTerm", (), "kind"))
        session.define("x" * 20, ONE)
        self.assertEqual(len(session), 2)

    def test_unknown_in_writing_order(self):
        session = session_of(("a", "1"))
        self.assertEqual(told_by(session.closed, read_term("a + (fn c : num. d + c)(e)")), ("Unknown", "d"))
        self.assertEqual(told_by(session.closed, read_term("share r of 2 times (n). p")), ("Unknown", "p"))
        self.assertEqual(told_by(session.closed, read_term("contest r of 2 by x (w). t")), ("Unknown", "w"))
        self.assertEqual(told_by(session.closed, read_term("(fn c : num. c)(c)")), ("Unknown", "c"))


class ClosedTest(unittest.TestCase):
    def test_closed_forms(self):
        session = session_of(("a", "2"), ("f", "fn x : num. x * a"), ("b", "f(a) + f(3)"))
        for text in ("b", "f", "f(b) + a", "fn b : num. f(b)", "fn x : num. f(x) + a", "fn v0 : num. v0 + a", "row f of 2. as 2 (f + b)",
                     "fn a : num. fn f : num -> num. f(a)", "some a of 2. a[b]", "7", "(fn x : num. a)(b)"):
            term = read_term(text)
            found = session.closed(term)
            self.assertEqual(found, closed_by(session.definitions(), term), text)
            self.assertEqual(free_names(found), ())
            self.assertEqual(plainly_named(found), found)
        self.assertEqual(value_of(session.closed(read_term("b")))[0], 10)
        self.assertEqual(value_of(session.closed(read_term("f(b) + a")))[0], 22)
        # A term may bind a name that is defined: there it stands for what the term binds.
        self.assertEqual(value_of(session.closed(read_term("(fn a : num. a + f(a))(5)")))[0], 15)
        self.assertEqual(session.closed(read_term("fn b : num. f(b)")), plainly_named(read_term("fn b : num. (fn x : num. x * 2)(b)")))

    def test_definitions_ahead(self):
        # f uses the a ahead of it, whatever is bound where it is used.
        session = session_of(("a", "2"), ("f", "fn x : num. x * a"))
        self.assertEqual(value_of(session.closed(read_term("(fn a : num. f(a))(5)")))[0], 10)
        self.assertEqual(told_by(session.define, "g", read_term("h")), ("Unknown", "h"))

    def test_nothing_defined(self):
        session = Session()
        term = read_term("fn x : num. fn y : num. x + y")
        self.assertEqual(session.closed(term), plainly_named(term))
        self.assertEqual(told_by(session.closed, ("var", "x")), ("Unknown", "x"))
        self.assertEqual(session.definitions(), ())

    def test_what_it_depends_on(self):
        session = session_of(("a", "2"))
        before = session.closed(read_term("a + a"))
        session.define("b", ONE)
        session.undo()
        self.assertEqual(session.closed(read_term("a + a")), before)
        self.assertEqual(kind_of(before, ()), ("num",))

    def test_bad_terms(self):
        session = session_of(("a", "2"), ("f", "fn x : num. x"))
        self.assertEqual(told_by(session.closed, read_term("a(f)")), ("BadTerm", (), "kind"))
        self.assertEqual(told_by(session.closed, read_term("1 + f(f)")), ("BadTerm", (1,), "kind"))
        # The path is that in the closed form.
        self.assertEqual(told_by(session.closed, read_term("(fn x : num. a[x])(1)")), ("BadTerm", (0, 0), "kind"))
        session = session_of(("p", "(1, 2)"))
        self.assertEqual(told_by(session.closed, read_term("1 + p")), ("BadTerm", (), "kind"))

    def nodes(self, many):
        """A sum with so many nodes, an odd number, that is not deep."""
        if many == 1:
            return ONE
        left = ((many - 1) // 2) | 1
        return ("prim", "add", (self.nodes(left), self.nodes(many - 1 - left)))

    def check_bound(self, session, term, fine):
        if fine:
            self.assertLessEqual(len(written(session.closed(term))), 200)
        else:
            self.assertEqual(told_by(session.closed, term), ("TooGreat", "term"))

    def test_nodes(self):
        even = ("as", 2, self.nodes(199))
        self.assertEqual([len(written(term)) for term in (self.nodes(199), even, self.nodes(201))], [199, 200, 201])
        for term, fine in ((self.nodes(199), True), (even, True), (self.nodes(201), False), (("count", even), False)):
            self.check_bound(Session(), term, fine)
            self.check_bound(session_of(("a", "1")), term, fine)
        # 200 and 201 nodes by what is put in.
        session = Session()
        session.define("a", self.nodes(99))
        self.check_bound(session, read_term("a + a"), True)
        self.check_bound(session, read_term("as 2 (a + a)"), True)
        self.check_bound(session, read_term("count(as 2 (a + a))"), False)
        self.assertEqual(told_by(session.define, "b", read_term("count(as 2 (a + a))")), ("TooGreat", "term"))
        session.define("b", read_term("as 2 (a + a)"))
        self.check_bound(session, ("var", "b"), True)
        self.check_bound(session, ("count", ("var", "b")), False)

    def deep(self, term, many):
        """A sum that is so much deeper than a term."""
        for _ in range(many):
            term = ("prim", "add", (term, ONE))
        return term

    def test_depth(self):
        self.check_bound(Session(), self.deep(ONE, 40), True)
        self.check_bound(Session(), self.deep(ONE, 41), False)
        session = Session()
        session.define("a", self.deep(ONE, 20))
        self.check_bound(session, self.deep(("var", "a"), 20), True)
        self.check_bound(session, self.deep(("var", "a"), 21), False)
        # Ahead of a fault of kinds, behind names that are unknown.
        self.assertEqual(told_by(session.closed, ("call", self.deep(("var", "a"), 21), ONE)), ("TooGreat", "term"))
        self.assertEqual(told_by(session.closed, ("call", self.deep(("var", "a"), 20), ONE)), ("TooGreat", "term"))
        self.assertEqual(told_by(session.closed, ("call", self.deep(("var", "a"), 19), ONE)), ("BadTerm", (), "kind"))
        self.assertEqual(told_by(session.closed, ("call", self.deep(("var", "a"), 41), ("var", "z"))), ("Unknown", "z"))

    def test_many_definitions(self):
        session = Session()
        for i in range(300):
            session.define(f"n{i}", ("var", f"n{i - 1}") if i else ONE)
        self.assertEqual(session.closed(("var", "n299")), ONE)
        for i in range(300, 2000):
            session.define(f"n{i}", ("var", "n7"))
        self.assertEqual(len(session), 2000)
        self.assertEqual(session.closed(read_term("n1999 + n8")), read_term("1 + 1"))
        # Each is twice the one ahead: the closed forms of what comes behind would be far too great.
        session = session_of(("a", "1"))
        for name, last in zip("bcdefg", "abcdef"):
            session.define(name, ("prim", "add", (("var", last), ("var", last))))
        self.assertEqual(told_by(session.define, "h", read_term("g + g")), ("TooGreat", "term"))
        self.assertEqual(value_of(session.closed(("var", "g")))[0], 64)
        self.assertEqual(told_by(session.closed, read_term(" + ".join("g" * 30))), ("TooGreat", "term"))
        # A term that a function of the package returned, of any size.
        great = ONE
        for _ in range(20000):
            great = ("prim", "add", (great, ("var", "g")))
        self.assertEqual(told_by(session.closed, great), ("TooGreat", "term"))
        self.assertEqual(told_by(session.closed, ("prim", "add", (great, ("var", "z")))), ("Unknown", "z"))


class EqualTest(unittest.TestCase):
    def test_equal(self):
        one, two = session_of(("a", "1"), ("b", "a")), session_of(("a", "1"))
        self.assertFalse(one == two)
        self.assertTrue(one != two)
        two.define("b", ("var", "a"))
        self.assertTrue(one == two)
        self.assertFalse(one != two)
        # Only the definitions count, not what there is to undo.
        two.drop()
        two.undo()
        self.assertTrue(one == two)
        self.assertFalse(session_of(("a", "1"), ("b", "2")) == session_of(("b", "2"), ("a", "1")))
        self.assertFalse(session_of(("a", "fn x : num. x")) == session_of(("a", "fn y : num. y")))
        self.assertTrue(Session() == Session())

    def test_other_objects(self):
        for other in (None, 0, (), "session", AllendlessError("x")):
            self.assertFalse(Session() == other)
            self.assertTrue(Session() != other)

    def test_not_hashed(self):
        self.assertRaises(TypeError, hash, Session())

    def test_sessions_of_their_own(self):
        one, two = Session(), Session()
        one.define("a", ONE)
        self.assertEqual((len(one), len(two)), (1, 0))


class WithTest(unittest.TestCase):
    def test_what_is_taken_back(self):
        session = session_of(("a", "1"), ("b", "2"), ("c", "3"))
        session.undo()
        with session as held:
            self.assertIs(held, session)
            session.define("d", ONE)
            session.undo()
            session.undo()
            self.assertEqual(len(session), 1)
        self.assertEqual([name for name, _ in session.definitions()], ["a", "b"])
        session.redo()
        self.assertEqual([name for name, _ in session.definitions()], ["a", "b", "c"])
        self.assertEqual(told_by(session.redo), ("NothingToRedo",))
        for _ in range(3):
            session.undo()
        self.assertEqual(told_by(session.undo), ("NothingToUndo",))

    def test_errors_go_on(self):
        session = session_of(("a", "1"))
        for error in (KeyError("x"), ZeroDivisionError()):
            with self.assertRaises(type(error)):
                with session:
                    session.drop()
                    raise error
            self.assertEqual(len(session), 1)
        self.assertEqual(told_by(self.leave_by_own_error, session), ("NothingDefined",))
        self.assertEqual(len(session), 1)

    def leave_by_own_error(self, session):
        with session:
            session.drop()
            session.drop()

    def test_blocks_in_blocks(self):
        session = Session()
        with session:
            session.define("a", ONE)
            with session as inner:
                inner.define("b", ONE)
                self.assertEqual(len(session), 2)
                with session:
                    session.drop()
                    session.drop()
                self.assertEqual(len(session), 2)
            self.assertEqual(len(session), 1)
            session.undo()
            self.assertEqual(len(session), 0)
            self.assertEqual(told_by(session.undo), ("NothingToUndo",))
        self.assertEqual(len(session), 0)
        self.assertEqual(told_by(session.redo), ("NothingToRedo",))


if __name__ == "__main__":
    unittest.main()
