"""DOC.md [71] to [77], [82] and [83], and the heading allendless/plays.py."""

import functools
import itertools
import unittest
from fractions import Fraction

from allendless.leasttrees import least
from allendless.plain import value_of
from allendless.plays import (
    best_play, best_rule, cut_worth, is_rule, reply_value, sure_worth, told_play, told_values, worth)
from allendless.trees import fixed_at
from tests.filling import ask, end, needed_by_filling, other_order, pair_of, value_at
from tests.making import Maker
from tests.wrong import told_by

TOP = 10 ** 18 - 1
GAME = ask(0, 0, ask(1, 0, 3, 1), ask(1, 0, 0, 2))
TURNS = (("great",), ("small",))
FREE = ("free",)
SIDES = ("great", "small", "chance")


def side_of(who, i):
    beginning, around = who
    return beginning[i] if i < len(beginning) else around[(i - len(beginning)) % len(around)]


def worth_by_plays(m, tree, who, n):
    """The worth by going through all plays of n moves."""
    def go(moves):
        i = len(moves)
        if i == n:
            return Fraction(value_at(tree, {(at, 0): move for at, move in enumerate(moves)}))
        found = [go(moves + (digit,)) for digit in range(m)]
        side = side_of(who, i)
        return max(found) if side == "great" else min(found) if side == "small" else sum(found) / m
    return go(())


def sure_by_words(m, tree, who, side, rule):
    """The sure worth as [73] tells it, word by word."""
    top = least((m,), tree)
    if top[0] == "end" and rule == FREE:
        return Fraction(top[1])
    i = min([part[1][0] for part in (top,) if part[0] == "ask"] + list(rule[1:2]))
    left = [fixed_at(top, (i, 0), digit) for digit in range(m)]
    if rule != FREE and rule[1] == i:
        if rule[0] == "own":
            return sure_by_words(m, left[rule[2]], who, side, rule[3])
        found = [sure_by_words(m, left[digit], who, side, rule[2][digit]) for digit in range(m)]
        taker = side_of(who, i)
    else:
        found = [sure_by_words(m, game, who, side, rule) for game in left]
        taker = side_of(who, i)
        if taker == side:
            taker = "small" if side == "great" else "great"
    return max(found) if taker == "great" else min(found) if taker == "small" else sum(found) / m


def following(m, rule, moves):
    """Whether moves, as many as the rule looks at, follow it."""
    while rule != FREE:
        digit = moves[rule[1]]
        if rule[0] == "own":
            if digit != rule[2]:
                return False
            rule = rule[3]
        else:
            rule = rule[2][digit]
    return True


def drawn_who(rng, sides=SIDES):
    parts = [rng.choice(sides) for _ in range(rng.randrange(1, 5))]
    cut = rng.randrange(len(parts))
    return (tuple(parts[:cut]), tuple(parts[cut:]))


def drawn_rule(rng, m, who, side, i=0, most=4):
    if i > most or rng.random() < 0.2:
        return FREE
    i = rng.randrange(i, most + 1)
    if side_of(who, i) == side:
        return ("own", i, rng.randrange(m), drawn_rule(rng, m, who, side, i + 1, most))
    return ("other", i, tuple(drawn_rule(rng, m, who, side, i + 1, most) for _ in range(m)))


def games(many=40, sides=SIDES, values=(0, 1, 2, 5), far=()):
    for m, places in ((2, [(i, 0) for i in (0, 1, 2, 3, 4, *far)]), (3, [(i, 0) for i in (0, 1, 3)])):
        for seed in range(many):
            maker = Maker(seed)
            tree = maker.tree((m,), places, values, 5)
            yield maker.random, m, other_order(maker.random, (m,), tree, places), drawn_who(maker.random, sides)


class WorthTest(unittest.TestCase):
    def test_example(self):
        self.assertEqual((worth(2, GAME, TURNS), cut_worth(2, GAME, TURNS, 2)), ((1, 1), (1, 1)))
        self.assertEqual(best_rule(2, GAME, TURNS, "great"), ("own", 0, 0, ("other", 1, (FREE, FREE))))
        self.assertEqual(best_rule(2, GAME, TURNS, "small"), ("other", 0, (("own", 1, 1, FREE), ("own", 1, 0, FREE))))
        self.assertEqual(best_play(2, GAME, TURNS), (0, 1))
        self.assertEqual(worth(2, GAME, (("great",), ("chance",))), (2, 1))

    def test_by_all_plays(self):
        for _, m, tree, who in games():
            modulus = max([i + 1 for i, _ in needed_by_filling((m,), tree)] or [0])
            wanted = pair_of(worth_by_plays(m, tree, who, modulus))
            self.assertEqual(worth(m, tree, who), wanted)
            for n in (modulus, modulus + 1, 6):
                self.assertEqual(cut_worth(m, tree, who, n), wanted)

    def test_ends_and_far_moves(self):
        for who in (((), ("great",)), (("small",), ("chance",))):
            self.assertEqual((worth(2, end(7), who), cut_worth(2, end(7), who, 0), cut_worth(3, end(7), who, 3)), ((7, 1),) * 3)
            self.assertEqual(worth(9, ask(TOP, 0, *[4] * 9), who), (4, 1))
        # Move TOP, far behind: an odd one.
        who = ((), ("great", "small"))
        self.assertEqual(worth(2, ask(TOP, 0, 4, 5), who), (4, 1))
        self.assertEqual(worth(2, ask(TOP - 1, 0, 4, 5), who), (5, 1))
        self.assertEqual(worth(3, ask(TOP, 0, 4, 5, 5), ((), ("chance",))), (14, 3))
        self.assertEqual(worth(2, ask(0, 0, 10 ** 900, 1), ((), ("chance",))), (10 ** 900 + 1, 2))

    def test_contests(self):
        # [82]: the value of a contest is the worth of the game of its tree.
        def term_of(tree):
            if tree[0] == "end":
                return ("number", tree[1])
            return ("if", ("at", ("var", "r"), ("number", tree[1][0])), term_of(tree[2][1]), term_of(tree[2][0]))
        for _, m, tree, who in games(30, ("great", "small")):
            if m == 2:
                side = ("digit", 2, int(side_of(who, 9) == "small"))
                for i in range(5):
                    is_i = ("prim", "same", (("var", "x"), ("number", i)))
                    side = ("if", is_i, ("digit", 2, int(side_of(who, i) == "small")), side)
                found = value_of(("contest", "r", 2, "x", side, term_of(tree)))[0]
                self.assertEqual((found, 1), worth(2, tree, who))


class RulesTest(unittest.TestCase):
    def test_is_rule(self):
        for value in (FREE, ("own", 0, 1, FREE), ("other", 1, (FREE, FREE)), ("own", 0, 0, ("other", 5, (FREE, ("other", TOP, (FREE, FREE)))))):
            self.assertIs(is_rule(2, TURNS, "great", value), True)
        self.assertIs(is_rule(2, TURNS, "small", ("other", 0, (FREE, ("own", TOP, 1, FREE)))), True)
        self.assertIs(is_rule(3, ((), ("chance",)), "small", ("other", 0, (FREE,) * 3)), True)
        for value in (
                (), None, "free", 0, True, ("free", 0), ("fre",), ("own",), ("other",), ("own", 0, 0), ("own", 1, 0, FREE), ("own", 0, 2, FREE),
                ("own", 0, -1, FREE), ("own", True, 0, FREE), ("own", False, 0, FREE), ("own", 0, True, FREE), ("own", 0, False, FREE), ("own", -1, 0, FREE),
                ("own", 0, 0, None), ("own", 0, 0, FREE, FREE), ("own", 0, 0, ()), ("other", 0, (FREE, FREE)), ("other", 1, FREE),
                ("other", 1, (FREE,)), ("other", 1, (FREE,) * 3), ("other", 1, [FREE, FREE]), ("other", 1, (FREE, None)), ("other", TOP + 1, (FREE, FREE)),
                ("other", True, (FREE, FREE)), ("other", 1, (FREE, FREE), 0), ("own", "0", 0, FREE), ("own", 0, "0", FREE), ("other", 1, "ab"),
                ("other", 1, (("other", 1, (FREE, FREE)), FREE)), ("other", 2, (FREE, ("other", 1, (FREE, FREE)))), ("own", 0, 0, ("own", 0, 0, FREE)),
                ("other", 1, (("own", 0, 1, FREE), FREE)), (("free",),), (None,), (0,), ("great",), ("chance", 1, (FREE, FREE)), ("own", None, 0, FREE),
                ("other", (1,), (FREE, FREE)), (True, 0, 0, FREE), ("own", 0, (0,), FREE)):
            self.assertIs(is_rule(2, TURNS, "great", value), False, value)
        self.assertIs(is_rule(2, TURNS, "small", ("own", 0, 1, FREE)), False)
        self.assertIs(is_rule(2, ((), ("chance",)), "small", ("own", 0, 1, FREE)), False)

    def test_deep_rules(self):
        rule = FREE
        for i in range(190, -1, -1):
            rule = ("own", i, 1, rule)
        who = ((), ("great",))
        self.assertIs(is_rule(2, who, "great", rule), True)
        self.assertIs(is_rule(2, ((), ("small",)), "great", rule), False)
        tree = ask(150, 0, 3, ask(3, 0, 8, 4))
        self.assertEqual((sure_worth(2, tree, who, "great", rule), worth(2, tree, who)), ((4, 1), (8, 1)))
        self.assertEqual(sure_worth(2, tree, who, "great", FREE), (3, 1))

    def test_drawn_rules(self):
        for rng, m, tree, who in games(40):
            for side in ("great", "small"):
                rule = drawn_rule(rng, m, who, side)
                self.assertIs(is_rule(m, who, side, rule), True)
                found = sure_worth(m, tree, who, side, rule)
                self.assertEqual(found, pair_of(sure_by_words(m, tree, who, side, rule)))
                sure, whole = Fraction(*found), Fraction(*worth(m, tree, who))
                self.assertTrue(sure <= whole if side == "great" else sure >= whole)

    def test_all_plays_that_follow(self):
        for rng, m, tree, who in games(40, ("great", "small")):
            for side in ("great", "small"):
                rule = drawn_rule(rng, m, who, side)
                values = [value_at(tree, {(i, 0): move for i, move in enumerate(moves)})
                          for moves in itertools.product(range(m), repeat=5) if following(m, rule, moves)]
                wanted = min(values) if side == "great" else max(values)
                self.assertEqual(sure_worth(m, tree, who, side, rule), (wanted, 1))

    def test_rules_that_look_at_needless_moves(self):
        tree = ask(2, 0, 1, 5)
        who = ((), ("small", "great"))
        rule = ("other", 0, (("own", 1, 1, FREE), FREE))
        self.assertEqual(sure_worth(2, tree, who, "great", rule), (1, 1))
        who = ((), ("small", "great", "great"))
        rule = ("other", 0, (("own", 2, 1, FREE), ("own", 2, 0, FREE)))
        self.assertEqual(sure_worth(2, tree, who, "great", rule), (1, 1))
        who = ((), ("chance", "great", "great"))
        self.assertEqual(sure_worth(2, tree, who, "great", rule), (3, 1))
        self.assertEqual(sure_worth(2, end(4), who, "great", rule), (4, 1))
        self.assertEqual(sure_worth(2, tree, who, "small", FREE), (5, 1))

    def test_best_rules(self):
        for _, m, tree, who in games(40):
            for side in ("great", "small"):
                rule = best_rule(m, tree, who, side)
                self.assertIs(is_rule(m, who, side, rule), True)
                self.assertEqual(sure_worth(m, tree, who, side, rule), worth(m, tree, who))
                self.assertEqual(rule, self.best_by_words(m, tree, who, side))

    def best_by_words(self, m, tree, who, side):
        top = least((m,), tree)
        if top[0] == "end":
            return FREE
        i = top[1][0]
        whole = worth(m, tree, who)
        if side_of(who, i) == side:
            digit = next(digit for digit in range(m) if worth(m, top[2][digit], who) == whole)
            return ("own", i, digit, self.best_by_words(m, top[2][digit], who, side))
        return ("other", i, tuple(self.best_by_words(m, branch, who, side) for branch in top[2]))

    def test_ties(self):
        tree = ask(0, 0, 3, 5, 5)
        self.assertEqual(best_rule(3, tree, ((), ("great",)), "great"), ("own", 0, 1, FREE))
        self.assertEqual(best_rule(3, ask(0, 0, 5, 3, 3), ((), ("small",)), "small"), ("own", 0, 1, FREE))
        self.assertEqual(best_rule(3, ask(0, 0, 5, 3, 3), ((), ("small",)), "great"), ("other", 0, (FREE, FREE, FREE)))
        self.assertEqual(best_play(3, tree, ((), ("great",))), (1,))


class BestPlayTest(unittest.TestCase):
    def test_by_words(self):
        for _, m, tree, who in games(60, ("great", "small")):
            moves = {}
            top = least((m,), tree)
            whole = worth(m, tree, who)
            while top[0] == "ask":
                digit = next(digit for digit in range(m) if worth(m, top[2][digit], who) == whole)
                moves[top[1][0]] = digit
                top = top[2][digit]
            wanted = [moves.get(i, 0) for i in range(6)]
            while wanted and not wanted[-1]:
                wanted.pop()
            self.assertEqual(best_play(m, tree, who), tuple(wanted))
            self.assertEqual((top[1], 1), whole)

    def test_long_ones(self):
        tree = ask(199, 0, 0, ask(7, 0, 3, 4))
        self.assertEqual(best_play(2, tree, ((), ("great",))), (0,) * 7 + (1,) + (0,) * 191 + (1,))
        self.assertEqual(best_play(2, tree, ((), ("small",))), ())
        self.assertEqual(best_play(2, end(3), ((), ("chance",))), ())

    def test_chance(self):
        for _, m, tree, who in games(60):
            needed = needed_by_filling((m,), tree)
            if any(side_of(who, i) == "chance" for i, _ in needed):
                self.assertEqual(told_by(best_play, m, tree, who), ("BadSide", "chance"))
            else:
                play = best_play(m, tree, who)
                self.assertEqual((value_at(tree, {(i, 0): digit for i, digit in enumerate(play)}), 1), worth(m, tree, who))
        # A move that is never needed, or is needed where the best play does not go.
        spare = ask(1, 0, ask(0, 0, 1, 2), ask(0, 0, 1, 2))
        self.assertEqual(best_play(2, spare, (("great",), ("chance",))), (1,))
        aside = ask(0, 0, 9, ask(1, 0, 1, 2))
        self.assertEqual(told_by(best_play, 2, aside, (("great",), ("chance",))), ("BadSide", "chance"))


class PlayersTest(unittest.TestCase):
    def told_by_words(self, m, trees, who, moves, n):
        """The told play of n moves, from the last move to the first one, and the values."""
        @functools.lru_cache(maxsize=None)
        def go(moves):
            if len(moves) >= n:
                return moves, tuple(value_at(tree, {(i, 0): move for i, move in enumerate(moves)}) for tree in trees)
            player = side_of(who, len(moves))
            found = [go(moves + (digit,)) for digit in range(m)]
            most = max(values[player] for _, values in found)
            return next(one for one in found if one[1][player] == most)
        return go(moves)

    def reply_by_words(self, m, trees, who, player, moves, n):
        @functools.lru_cache(maxsize=None)
        def go(moves):
            if len(moves) >= n:
                return value_at(trees[player], {(i, 0): move for i, move in enumerate(moves)})
            if side_of(who, len(moves)) == player:
                return max(go(moves + (digit,)) for digit in range(m))
            return go(moves + (self.told_by_words(m, trees, who, moves, n)[0][len(moves)],))
        return go(moves)

    def drawn(self, many=50):
        for m, places in ((2, [(0, 0), (1, 0), (2, 0), (4, 0)]), (3, [(0, 0), (2, 0), (3, 0)])):
            for seed in range(many):
                maker = Maker(seed)
                players = maker.random.randrange(1, 5)
                trees = tuple(maker.tree((m,), places, (0, 1, 2), 4) for _ in range(players))
                yield maker.random, m, trees, drawn_who(maker.random, tuple(range(players)))

    def test_by_words(self):
        for rng, m, trees, who in self.drawn():
            for many in (0, 1, 3, 6):
                beginning = tuple(rng.randrange(m) for _ in range(many))
                moves, values = self.told_by_words(m, trees, who, beginning, 5)
                short = list(moves)
                while short and not short[-1]:
                    short.pop()
                self.assertEqual(told_play(m, trees, who, beginning), tuple(short))
                self.assertEqual(told_values(m, trees, who, beginning), values)
                for player in range(len(trees)):
                    found = reply_value(m, trees, who, player, beginning)
                    self.assertEqual(found, self.reply_by_words(m, trees, who, player, beginning, 5))
                    # No player can do better alone.
                    self.assertEqual(found, values[player])

    def test_other_orders(self):
        for rng, m, trees, who in self.drawn(15):
            again = tuple(other_order(rng, (m,), tree) for tree in trees)
            for beginning in ((), (1,), (0, 1, 0)):
                self.assertEqual(told_play(m, again, who, beginning), told_play(m, trees, who, beginning))
                self.assertEqual(told_values(m, again, who, beginning), told_values(m, trees, who, beginning))

    def test_plain_ones(self):
        who = ((), (0, 1))
        trees = (GAME, led_from(GAME, 9))
        self.assertEqual((told_play(2, trees, who, ()), told_values(2, trees, who, ())), ((0, 1), (1, 8)))
        self.assertEqual((told_play(2, trees, who, (1,)), told_values(2, trees, who, (1,))), ((1,), (0, 9)))
        self.assertEqual((told_play(2, trees, who, (1, 1, 1, 0)), told_values(2, trees, who, (1, 1, 1, 0))), ((1, 1, 1), (2, 7)))
        self.assertEqual((told_play(2, trees, who, (1, 0, 0, 0, 0, 0)), reply_value(2, trees, who, 0, (1,))), ((1,), 0))
        self.assertEqual((told_play(2, (end(3),), ((), (0,)), ()), told_values(2, (end(3),), ((), (0,)), (0, 0))), ((), (3,)))
        tree = ask(199, 0, 0, ask(0, 0, 3, 4))
        self.assertEqual(told_play(2, (tree,), ((), (0,)), ()), (1,) + (0,) * 198 + (1,))
        self.assertEqual(told_play(2, (tree,), ((), (0,)), (0, 1)), (0, 1) + (0,) * 197 + (1,))

    def test_moves_of_others_count(self):
        # Player 0's tree looks at move 1 alone, which player 1 makes; player 1 wants it as move 0 is.
        trees = (ask(1, 0, 0, 5), ask(0, 0, ask(1, 0, 1, 0), ask(1, 0, 0, 1)))
        self.assertEqual(told_play(2, trees, ((), (0, 1)), ()), (1, 1))
        self.assertEqual(told_values(2, trees, ((), (0, 1)), ()), (5, 1))

    def test_two_players_of_one_sum(self):
        for rng, m, tree, who in games(30, ("great", "small")):
            players = tuple(tuple(SIDES.index(side) for side in part) for part in who)
            trees = (tree, led_from(other_order(rng, (m,), tree), 7))
            self.assertEqual((told_values(m, trees, players, ())[0], 1), worth(m, tree, who))


def led_from(tree, whole):
    """The tree of what a tree's values are less than a number."""
    if tree[0] == "end":
        return end(whole - tree[1])
    return ("ask", tree[1], tuple(led_from(branch, whole) for branch in tree[2]))


if __name__ == "__main__":
    unittest.main()
