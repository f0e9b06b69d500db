"""DOC.md part K, [78] to [81], and the heading allendless/choosers.py."""

import random
import unittest

from allendless.choosers import choice, outcome, play_of, play_term, play_value
from allendless.judging import kind_of
from allendless.kinds import plainly_named
from allendless.plain import MOST_STEPS, value_of
from allendless.plays import best_play, worth
from allendless.reader import read_term
from allendless.trees import ends_of
from allendless.ways import ways
from tests import simple
from tests.filling import value_at
from tests.making import Maker
from tests.wrong import what_of

GAME = read_term("fn r : rows 2. if r[0] then (if r[1] then 2 else 0) else (if r[1] then 1 else 3)")
IN_TURN = read_term(
    "fn i : num. fn f : few 2 -> num. if i | 2 = 0 then (if f(0:2) < f(1:2) then 1:2 else 0:2) "
    "else (if f(1:2) < f(0:2) then 1:2 else 0:2)")

# Rows of choosers for few 2 and few 3, their values being numbers or digits.
CHOOSERS = {
    (2, "num"): (
        "fn i : num. fn f : few 2 -> num. if f(0:2) < f(1:2) then 1:2 else 0:2",
        "fn i : num. fn f : few 2 -> num. as 2 (f(0:2) + f(1:2) * 3 + i)",
        "fn i : num. fn v0 : few 2 -> num. if i | 3 = 1 then as 2 (v0(1:2)) else (if v0(1:2) < v0(0:2) then 1:2 else 0:2)",
        "fn i : num. (fn m : num. fn f : few 2 -> num. if m = 0 then 1:2 else as 2 (f(0:2))) (i | 2)",
        "fn i : num. fn f : few 2 -> num. 1:2",
        "fn v0 : num. fn v1 : few 2 -> num. as 2 (v1(as 2 (v1(as 2 (v0)))) + v0 / 2)",
    ),
    (3, "num"): (
        "fn i : num. fn f : few 3 -> num. if i | 2 = 0 then (if f(0:3) < f(2:3) then 2:3 else 0:3) else as 3 (f(1:3))",
        "fn i : num. fn f : few 3 -> num. as 3 (repeat(i, fn x : num. f(as 3 (x)), i))",
    ),
    (2, "few 3"): (
        "fn i : num. fn f : few 2 -> few 3. if count(f(0:2)) < count(f(1:2)) then 1:2 else 0:2",
        "fn i : num. fn f : few 2 -> few 3. as 2 (count(f(0:2)) + i)",
    ),
    (3, "few 2"): (
        "fn r : num. fn s : few 3 -> few 2. if s(2:3) then 1:3 else if s(0:3) then 2:3 else 0:3",
    ),
}


def chosen(choosers, i, values):
    """What the chooser of move i chooses, worked out a second time."""
    run = simple.SimpleRun()
    return run.work(choosers, {})(i)(lambda digit: values[digit])


class Play:
    """The play of choosers by the sentence that defines it; n is no less than the modulus."""

    def __init__(self, tree, size, choosers, n):
        self.tree = tree
        self.size = size
        self.choosers = choosers
        self.n = n

    def next(self, begun):
        values = [self.value(begun + (digit,)) for digit in range(self.size)]
        return chosen(self.choosers, len(begun), values)

    def value(self, begun):
        while len(begun) < self.n:
            begun = begun + (self.next(begun),)
        return value_at(self.tree, {(i, 0): digit for i, digit in enumerate(begun)})

    def entries(self, begun, count):
        while len(begun) < count:
            begun = begun + (self.next(begun),)
        return begun[:count]


def term_of_tree(tree, kind):
    """A term that asks as a tree does, of a row r."""
    if tree[0] == "end":
        return ("number", tree[1]) if kind == ("num",) else ("digit", kind[1], tree[1])
    made = term_of_tree(tree[2][-1], kind)
    for digit in range(len(tree[2]) - 2, -1, -1):
        here = ("prim", "same", (("count", ("at", ("var", "r"), ("number", tree[1][0]))), ("number", digit)))
        made = ("if", here, term_of_tree(tree[2][digit], kind), made)
    return made


def program_of_tree(tree, size, kind=("num",)):
    return ("fn", "r", ("rows", size), term_of_tree(tree, kind))


class ChooserTest(unittest.TestCase):
    def test_choice_and_outcome(self):
        greatest = read_term("fn f : few 3 -> num. if f(0:3) < f(1:3) then (if f(1:3) < f(2:3) then 2:3 else 1:3) else 0:3")
        self.assertEqual(choice(greatest, (1, 5, 9)), 2)
        self.assertEqual(outcome(greatest, (1, 5, 9)), 9)
        self.assertEqual(outcome(greatest, (10 ** 18 - 1, 5, 9)), 10 ** 18 - 1)
        last = read_term("fn f : few 2 -> few 9. 1:2")
        self.assertEqual((choice(last, (8, 0)), outcome(last, (8, 0))), (1, 0))
        # A chooser that is worked out first, and one that asks for what it was told.
        made = read_term("(fn n : num. fn f : few 2 -> num. as 2 (n + f(as 2 (f(0:2))))) (1)")
        for values in ((0, 0), (0, 1), (1, 0), (1, 1), (4, 7)):
            run = simple.SimpleRun()
            told = run.work(made, {})(lambda digit: values[digit])
            self.assertEqual(choice(made, values), told)
            self.assertEqual(outcome(made, values), values[told])

    def test_great_choosers(self):
        long = read_term("fn f : few 2 -> num. as 2 (repeat(60, fn a : num. repeat(60, fn b : num. repeat(60, "
                         "fn c : num. f(as 2 (c)), b), a), 0))")
        self.assertIn(what_of(choice, long, (0, 1)), ("program", None))
        fine = read_term("fn f : few 2 -> num. as 2 (repeat(60, fn a : num. f(as 2 (a)) + a, 0))")
        self.assertEqual(choice(fine, (1, 1)), 0)
        self.assertLess(500, MOST_STEPS)


class PlayTest(unittest.TestCase):
    def test_example(self):
        self.assertEqual(play_of(GAME, IN_TURN, (), 6), (0, 1, 0, 0, 0, 0))
        self.assertEqual(play_value(GAME, IN_TURN, ()), 1)
        self.assertEqual(play_of(GAME, IN_TURN, (1,), 4), (1, 0, 0, 0))
        self.assertEqual(play_value(GAME, IN_TURN, (1,)), 0)
        term = play_term(GAME, IN_TURN)
        self.assertEqual([value_of(("at", term, ("number", i)))[0] for i in range(6)], [0, 1, 0, 0, 0, 0])

    def test_counts(self):
        self.assertEqual(play_of(GAME, IN_TURN, (), 0), ())
        self.assertEqual(play_of(GAME, IN_TURN, (1, 1, 1), 0), ())
        self.assertEqual(play_of(GAME, IN_TURN, (1, 1, 0), 2), (1, 1))
        self.assertEqual(play_of(GAME, IN_TURN, (1, 1, 1), 3), (1, 1, 1))
        self.assertEqual(play_of(GAME, IN_TURN, (1, 1, 1), 4), (1, 1, 1, 0))
        self.assertEqual(play_of(GAME, IN_TURN, (), 60), (0, 1) + (0,) * 58)
        self.assertEqual(play_value(GAME, IN_TURN, (1, 1, 1, 1)), 2)

    def test_plays(self):
        rng = random.Random(7)
        for (size, told), texts in CHOOSERS.items():
            kind = ("num",) if told == "num" else ("few", int(told[-1]))
            values = (0, 1, 2, 3, 7) if kind == ("num",) else tuple(range(kind[1]))
            for text in texts:
                for seed in range(12):
                    tree = Maker(seed).tree((size,), [(i, 0) for i in (0, 1, 2, 4)], values, 4)
                    self.check(program_of_tree(tree, size, kind), read_term(text), size, kind, rng)

    def check(self, program, choosers, size, kind, rng):
        tree = ways(program)
        play = Play(tree, size, choosers, 5)
        begun = tuple(rng.randrange(size) for _ in range(8))
        for many in (0, 1, 3, 5, 8):
            self.assertEqual(play_of(program, choosers, begun[:many], 9), play.entries(begun[:many], 9))
            self.assertEqual(play_value(program, choosers, begun[:many]), play.value(begun[:many]))
        term = play_term(program, choosers)
        self.assertEqual(kind_of(term, ()), ("rows", size))
        self.assertEqual(tuple(value_of(("at", term, ("number", i)))[0] for i in range(8)), play.entries((), 8))
        # The value of the play is the nested outcome.
        self.assertEqual(play_value(program, choosers, ()), self.nested(play, choosers, 0, ()))

    def nested(self, play, choosers, i, begun):
        if i == play.n:
            return play.value(begun)
        values = tuple(self.nested(play, choosers, i + 1, begun + (digit,)) for digit in range(play.size))
        return outcome(("call", choosers, ("number", i)), values)

    def test_later_moves(self):
        # Behind all that is needed each move is what its chooser chooses from a constant.
        choosers = read_term("fn i : num. fn f : few 3 -> num. as 3 (f(0:3) * 2 + f(2:3) + i / 2)")
        program = read_term("fn r : rows 3. 4 + count(r[1])")
        value = play_value(program, choosers, ())
        entries = play_of(program, choosers, (), 60)
        for i in range(2, 60):
            self.assertEqual(entries[i], chosen(choosers, i, (value,) * 3))
        term = play_term(program, choosers)
        for i in (0, 1, 2, 30, 59, 77, 10 ** 17):
            self.assertEqual(value_of(("at", term, ("number", i)))[0],
                             entries[i] if i < 60 else chosen(choosers, i, (value,) * 3))

    def test_constant_programs(self):
        program = read_term("fn r : rows 2. 5")
        self.assertEqual(play_of(program, IN_TURN, (), 3), (0, 0, 0))
        self.assertEqual(play_value(program, IN_TURN, (1,)), 5)
        self.assertEqual(play_of(read_term("fn r : rows 2. 1:3"), read_term(CHOOSERS[(2, "few 3")][1]), (), 4), (1, 0, 1, 0))

    def test_best_plays(self):
        for seed in range(60):
            tree = Maker(seed).tree((2,), [(i, 0) for i in range(5)], (0, 1, 2, 3), 4)
            program = program_of_tree(tree, 2)
            who = ((), ("great", "small"))
            best = best_play(2, tree, who)
            self.assertEqual(play_of(program, IN_TURN, (), 7), best + (0,) * (7 - len(best)))
            self.assertEqual((play_value(program, IN_TURN, ()), 1), worth(2, tree, who))

    def test_names(self):
        # Names of the program and of the choosers that are the same, or look like plain names.
        choosers = plainly_named(IN_TURN)
        for program in (GAME, plainly_named(GAME), read_term("fn f : rows 2. if f[0] then (if f[1] then 2 else 0) "
                                                             "else (if f[1] then 1 else 3)")):
            for other in (choosers, IN_TURN, read_term("fn move : num. fn digit : few 2 -> num. if move | 2 = 0 then "
                          "(if digit(0:2) < digit(1:2) then 1:2 else 0:2) else (if digit(1:2) < digit(0:2) then 1:2 else 0:2)")):
                term = play_term(program, other)
                self.assertEqual(kind_of(term, ()), ("rows", 2))
                self.assertEqual([value_of(("at", term, ("number", i)))[0] for i in range(4)], [0, 1, 0, 0])

    def test_bounds(self):
        # m ** n up to 1,000: 2 ** 9, 3 ** 6, 9 ** 3.
        for size, n in ((2, 9), (3, 6), (9, 3)):
            # All places are needed, with few ends.
            total = "count(r[0])"
            for i in range(1, n):
                total = f"if count(r[{i}]) = {size - 1} then {total} + {i} else {i}"
            program = read_term(f"fn r : rows {size}. {total}")
            choosers = read_term(f"fn i : num. fn f : few {size} -> num. as {size} (f(0:{size}) + f(1:{size}) + i)")
            play = Play(ways(program), size, choosers, n)
            for begun in ((), (1,), (1,) * n, (1,) * (n + 2)):
                self.assertEqual(play_of(program, choosers, begun, n + 3), play.entries(begun, n + 3))
                self.assertEqual(play_value(program, choosers, begun), play.value(begun))
            self.assertEqual(max(i for known, _ in ends_of(ways(program)) for (i, _), _ in known), n - 1)

    def test_programs_that_are_not_small(self):
        great = read_term("fn r : rows 2. repeat(60, fn n : num. n + 1 + count(r[n]), 0)")
        for function in (lambda: play_value(great, IN_TURN, ()), lambda: play_term(great, IN_TURN)):
            self.assertIn(what_of(function), ("program", "tree", None))


if __name__ == "__main__":
    unittest.main()
