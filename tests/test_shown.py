"""DOC.md part P, [113] to [115], and the heading allendless/shown.py."""

import random
import unittest
from fractions import Fraction

from allendless.judging import menu_of, result_of
from allendless.reader import read_term
from allendless.shown import answer_to, certified, is_certified, is_right_tree
from allendless.told import is_known
from allendless.trees import ends_of
from allendless.ways import is_small, ways
from tests import simple
from tests.filling import ask, end, fillings, other_order, places_in, value_at
from tests.making import Maker
from tests.test_quantify import BIG
from tests.test_ways import P, program
from tests.wrong import told_by, what_of

TRUTH = ("few", 2)
TOP = 10 ** 18 - 1


def is_int(value, low, high):
    return type(value) is int and low <= value <= high


def values_from(term, menu, known):
    """The values that runs come to from known entries (a dict) on, going on with every answer; by their reprs."""
    found = simple.run_known(term, sorted(known.items()))
    if found[0] == "value":
        return {repr(found[1])}
    i, k = found[1]
    return set().union(*[values_from(term, menu, {**known, (i, k): digit}) for digit in range(menu[k])])


def is_right(term, menu, tree, known):
    """Whether a value is a right tree, known answers (a dict) being above it."""
    if not isinstance(tree, tuple) or not tree:
        return False
    if tree[0] == "end":
        return len(tree) == 2 and values_from(term, menu, known) == {repr(tree[1])}
    if tree[0] != "ask" or len(tree) != 3 or not is_place(menu, tree[1]) or tree[1] in known:
        return False
    if not isinstance(tree[2], tuple) or len(tree[2]) != menu[tree[1][1]]:
        return False
    return all([is_right(term, menu, branch, {**known, tree[1]: digit}) for digit, branch in enumerate(tree[2])])


def is_place(menu, value):
    return isinstance(value, tuple) and len(value) == 2 and is_int(value[0], 0, TOP) and is_int(value[1], 0, len(menu) - 1)


def always(term, menu, known, value):
    return is_known(menu, known) and values_from(term, menu, dict(known)) == {repr(value)}


def places_of(tree):
    return set() if tree[0] == "end" else {tree[1]}.union(*[places_of(branch) for branch in tree[2]])


def shows(question, answer, certificate):
    """Whether a certificate is one for an answer, by the table of [114] and by runs alone."""
    word, term, *more = question
    menu = menu_of(term)
    if word in ("holds", "can hold", "occurs"):
        wanted = {"holds": 0, "can hold": 1}[word] if word != "occurs" else more[0]
        is_tree = answer if word == "holds" else not answer
        return is_right(term, menu, certificate, {}) if is_tree else always(term, menu, certificate, wanted)
    if word == "share":
        return is_right(term, menu, certificate, {})
    if word == "same" and answer:
        return is_right(term, menu, certificate, {}) and is_right(more[0], menu, certificate, {})
    if word == "hangs" and not answer:
        return is_right(term, menu, certificate, {}) and more[0] not in places_of(certificate)
    if not isinstance(certificate, tuple) or len(certificate) != (3 if word == "same" else 5):
        return False
    known, *digits, value, worth = certificate
    if repr(value) == repr(worth) or not is_known(menu, known):
        return False
    if word == "same":
        return always(term, menu, known, value) and always(more[0], menu, known, worth)
    place, entries = more[0], dict(known)
    if place in entries or not all(is_int(digit, 0, menu[place[1]] - 1) for digit in digits):
        return False
    one, two = [tuple(sorted({**entries, place: digit}.items())) for digit in digits]
    return always(term, menu, one, value) and always(term, menu, two, worth)


def truths(tree, menu):
    """The values on all fillings of the places of a tree."""
    places = places_in(tree)
    return [value_at(tree, digits) for digits in fillings(menu, places)]


def hangs_by(tree, menu, place):
    places = sorted(set(places_in(tree)) | {place})
    for digits in fillings(menu, places):
        if len({repr(value_at(tree, {**digits, place: digit})) for digit in range(menu[place[1]])}) > 1:
            return True
    return False


def bent(rng, value):
    """Some data with one part of it changed."""
    if isinstance(value, tuple) and value and rng.random() < 0.85:
        at = rng.randrange(len(value))
        part = rng.random()
        if part < 0.08:
            return value[:at] + value[at + 1:]
        if part < 0.14:
            return value[:at] + (value[at],) + value[at:]
        if part < 0.2 and len(value) > 1:
            return value[:at] + (value[at - 1],) + value[at + 1:]
        if part < 0.26 and len(value) > 1:
            other = rng.randrange(len(value))
            held = list(value)
            held[at], held[other] = held[other], held[at]
            return tuple(held)
        return value[:at] + (bent(rng, value[at]),) + value[at + 1:]
    if isinstance(value, int) and rng.random() < 0.7:
        return value + rng.choice((-1, 1))
    return rng.choice((0, 1, 2, True, False, None, "", "end", "ask", (), (0, 0), end(0), end(1), ask(0, 0, 0, 1), (((0, 0), 1),)))


class TreeTest(unittest.TestCase):
    def test_right_trees(self):
        self.assertIs(is_right_tree(P, ways(P)), True)
        # Asks that do not matter, in other orders.
        for tree in (ask(1, 0, ask(0, 0, 0, 1), ask(0, 0, 0, 2)), ask(7, 0, ways(P), ways(P)),
                     ask(0, 0, ask(1, 0, 0, 0), ask(1, 0, 1, 2)), ask(TOP, 0, ways(P), ask(0, 0, 0, ask(1, 0, 1, 2)))):
            self.assertIs(is_right_tree(P, tree), True)
        self.assertIs(is_right_tree(program("(1, 1:2)", 2), end((1, 1))), True)
        self.assertIs(is_right_tree(program("(1, 1:2)"), end((1, 1))), True)

    def test_trees_that_are_not_right(self):
        tree = ways(P)
        for value in (
                end(0), end(1), ask(0, 0, 0, ask(1, 0, 1, 1)), ask(0, 0, 0, ask(1, 0, 2, 1)), ask(0, 0, 1, ask(1, 0, 1, 2)),
                ask(1, 0, 0, ask(0, 0, 1, 2)), ask(0, 0, ask(1, 0, 1, 2), 0), ask(0, 0, 0, ask(0, 0, 1, 2)), ask(0, 0, 0, ask(2, 0, 1, 2)),
                ask(0, 0, ask(0, 0, 0, 0), ask(1, 0, 1, 2)), ask(0, 1, tree, tree), ask(-1, 0, tree, tree), ask(TOP + 1, 0, tree, tree),
                ("ask", (0, 0), tree[2][:1]), ("ask", (0, 0), tree[2] + (end(0),)), ("ask", (0, 0), list(tree[2])), ("ask", (0, 0, 0), tree[2]),
                ("ask", (0,), tree[2]), ("ask", (False, 0), tree[2]), ("ask", (0, False), tree[2]), ("ask", (0, 0)), ("ask", (0, 0), tree[2], 0),
                ("end",), ("end", 0, 0), (), None, 0, "end", ("asks", (0, 0), tree[2]), (("end", 0),), ("ask", (0, 0), (end(0), None)),
                ("ask", (0, 0), (end(False), ask(1, 0, 1, 2))), ("ask", (0, 0), (end(0), ask(1, 0, end(True), 2))),
                ("ask", (0, 0), (end(0), ask(1, 0, end("1"), 2))), ("ask", (0, 0), (end(None), ask(1, 0, 1, 2))),
                ("ask", (0, 0), (end((0,)), ask(1, 0, 1, 2)))):
            self.assertIs(is_right_tree(P, value), False, value)
        self.assertIs(is_right_tree(program("(1, 1:2)", 2), end((1, True))), False)
        self.assertIs(is_right_tree(program("1:2", 2), end(True)), False)

    def test_random_programs(self):
        rng = random.Random(0)
        told = {True: 0, False: 0}
        for seed in range(120):
            maker = Maker(seed)
            menu = tuple(rng.choice((2, 2, 3)) for _ in range(1 + seed % 3))
            term = maker.program(menu, 4)
            if not is_small(term) or len(ends_of(ways(term))) > 30 or len(places_in(ways(term))) > 5:
                continue
            tree = ways(term)
            for value in [tree] + [other_order(rng, menu, tree, places_in(tree) + [(9, 0)]) for _ in range(2)]:
                self.assertIs(is_right_tree(term, value), True)
                for _ in range(6):
                    changed = bent(rng, value)
                    wanted = is_right(term, menu, changed, {})
                    self.assertIs(is_right_tree(term, changed), wanted)
                    told[wanted] += 1
        self.assertGreater(told[False], 300)

    def test_great_and_deep_trees(self):
        # More than 2,000 nodes: a tree of [113] has no bound but that of data.
        tree = ways(P)
        for i in range(10, 20):
            tree = ask(i, 0, tree, tree)
        self.assertIs(is_right_tree(P, tree), True)
        deep = ways(P)
        for i in range(2, 3000):
            deep = ask(i, 0, ways(P), deep)
        self.assertIs(is_right_tree(P, deep), True)
        self.assertIs(is_right_tree(P, ("ask", (3000, 0), (end(0), deep))), False)


def questions(term, other):
    """All questions about a program."""
    menu = menu_of(term)
    tree = ways(term)
    found = []
    if result_of(term) == TRUTH:
        share = sum((share_of(known, menu) for known, value in ends_of(tree) if value == 1), Fraction(0))
        found += [("holds", term), ("can hold", term), ("share", term, share.numerator, share.denominator),
                  ("share", term, 3 * share.numerator, 3 * share.denominator), ("share", term, share.numerator + 1, share.denominator),
                  ("share", term, 0, 5), ("share", term, 7, 7), ("share", term, 5, 3)]
        found += [("occurs", term, 0), ("occurs", term, 1)]
    else:
        found += [("occurs", term, value) for value in sorted({value for _, value in ends_of(tree)})[:3]]
    if result_of(term)[0] == "num":
        found.append(("occurs", term, 10 ** 17))
    for place in sorted(set(places_in(tree)) | {(5, 0), (TOP, len(menu) - 1)}):
        found.append(("hangs", term, place))
    if menu_of(other) == menu and result_of(other) == result_of(term):
        found.append(("same", term, other))
    found.append(("same", term, term))
    return found


def share_of(known, menu):
    share = Fraction(1)
    for (_, k), _ in known:
        share /= menu[k]
    return share


def answer_by(question):
    """The answer by all ways to fill places."""
    word, term, *more = question
    menu = menu_of(term)
    tree = ways(term)
    if word == "hangs":
        return hangs_by(tree, menu, more[0])
    if word == "same":
        two = ways(more[0])
        places = places_in(tree, two)
        return all(value_at(tree, digits) == value_at(two, digits) for digits in fillings(menu, places))
    values = truths(tree, menu)
    if word == "share":
        return Fraction(values.count(1), len(values)) == Fraction(*more)
    if word == "occurs":
        return more[0] in values
    return all(values) if word == "holds" else any(values)


class QuestionTest(unittest.TestCase):
    def test_random_programs(self):
        rng = random.Random(1)
        met = {}
        for seed in range(220):
            maker = Maker(seed)
            menu = tuple(rng.choice((2, 2, 3)) for _ in range(1 + seed % 3))
            result = TRUTH if seed % 2 else None
            term, other = maker.program(menu, 4, result), maker.program(menu, 4, result)
            if not all(is_small(one) and len(places_in(ways(one))) <= 5 for one in (term, other)):
                continue
            for question in questions(term, other):
                answer = answer_by(question)
                self.assertIs(answer_to(question), answer, question)
                told, certificate = certified(question)
                self.assertIs(told, answer)
                self.assertTrue(shows(question, answer, certificate), question)
                self.assertIs(is_certified(question, answer, certificate), True)
                self.assertIs(is_certified(question, not answer, certificate), False)
                for _ in range(3):
                    changed = bent(rng, certificate)
                    self.assertIs(is_certified(question, answer, changed), shows(question, answer, changed), (question, changed))
                    self.assertIs(is_certified(question, not answer, changed), False)
                met[(question[0], answer)] = met.get((question[0], answer), 0) + 1
        self.assertEqual(len(met), 12)
        self.assertGreater(min(met.values()), 5)

    def test_answers(self):
        question = ("holds", program("1:2", 2))
        self.assertIs(is_certified(question, True, end(1)), True)
        for answer in (1, None, "True", (True,), 0, False, ()):
            self.assertIs(is_certified(question, answer, end(1)), False)
        self.assertIs(is_certified(("can hold", program("0:2", 2)), False, end(0)), True)
        self.assertIs(is_certified(("can hold", program("0:2", 2)), 0, end(0)), False)

    def test_certificates_by_hand(self):
        one = program("if r[2] then s[0] else 1:2", 2, 2)
        fine = (((0, 1), 0), ((2, 0), 1))
        self.assertIs(is_certified(("holds", one), False, fine), True)
        for known in (
                (((2, 0), 1), ((0, 1), 0)), (((0, 1), 0), ((0, 1), 0), ((2, 0), 1)), (((0, 1), 0),), (((2, 0), 1),), (), (((0, 1), 0), ((2, 0), 2)),
                (((0, 1), 0), ((2, 0), True)), (((0, 1), False), ((2, 0), 1)), (((0, 1), 0), ((2, 0), 1), ((2, 2), 0)), (((0, 1), 0), ((2, 0), 0)),
                [((0, 1), 0), ((2, 0), 1)], (((0, 1), 0), ((2, 0),)), None, 0, "known", (((0, 1), 0), ((2.0, 0), 1)), (((0, 1), 0, 0), ((2, 0), 1)),
                (((0, 1), -1), ((2, 0), 1)), ((("0", 1), 0), ((2, 0), 1))):
            self.assertIs(is_certified(("holds", one), False, known), False, known)
        # Further entries do not matter.
        self.assertIs(is_certified(("holds", one), False, fine + (((9, 1), 1),)), True)
        self.assertIs(is_certified(("holds", one), False, (((0, 0), 1),) + fine), True)
        self.assertIs(is_certified(("can hold", one), True, (((2, 0), 0),)), True)
        self.assertIs(is_certified(("can hold", one), True, (((0, 1), 1),)), True)

    def test_same(self):
        other = read_term("fn r : rows 2. 2 * count(r[0])")
        self.assertEqual(certified(("same", P, other))[0], False)
        self.assertIs(is_certified(("same", P, other), False, ((((0, 0), 1), ((1, 0), 0)), 1, 2)), True)
        for certificate in (((((0, 0), 1), ((1, 0), 0)), 2, 1), ((((0, 0), 1), ((1, 0), 1)), 2, 2), ((((0, 0), 1),), 1, 2), ((), 1, 2),
                            ((((0, 0), 1), ((1, 0), 0)), 1, True), ((((0, 0), 1), ((1, 0), 0)), 1), ((((0, 0), 1), ((1, 0), 0)), 1, 2, 3)):
            self.assertIs(is_certified(("same", P, other), False, certificate), False, certificate)
        twice = read_term("fn s : rows 2. if s[0] then 1 + count(s[1]) else 0")
        self.assertIs(is_certified(("same", P, twice), True, ask(1, 0, ask(0, 0, 0, 1), ask(0, 0, 0, 2))), True)
        self.assertIs(is_certified(("same", P, twice), True, ask(1, 0, ask(0, 0, 0, 1), ask(0, 0, 0, 1))), False)

    def test_hangs(self):
        for place, answer in (((0, 0), True), ((1, 0), True), ((2, 0), False), ((TOP, 0), False)):
            self.assertIs(answer_to(("hangs", P, place)), answer)
        question = ("hangs", P, (1, 0))
        self.assertIs(is_certified(question, True, ((((0, 0), 1),), 0, 1, 1, 2)), True)
        self.assertIs(is_certified(question, True, ((((0, 0), 1),), 1, 0, 2, 1)), True)
        for certificate in (
                ((((0, 0), 1),), 0, 1, 2, 1), ((((0, 0), 0),), 0, 1, 0, 0), ((), 0, 1, 1, 2), ((((0, 0), 1),), 0, 0, 1, 2), ((((0, 0), 1),), 0, 2, 1, 2),
                ((((0, 0), 1), ((1, 0), 0)), 0, 1, 1, 2), ((((0, 0), 1),), 0, True, 1, 2), ((((0, 0), 1),), False, 1, 1, 2),
                ((((0, 0), 1),), 0, 1, 1, 1), ((((0, 0), 1),), 0, 1, 1), (), None):
            self.assertIs(is_certified(question, True, certificate), False, certificate)
        # A right tree, but it asks the place.
        idle = read_term("fn r : rows 2. if r[3] then r[0] else r[0]")
        self.assertIs(is_certified(("hangs", idle, (3, 0)), False, ask(0, 0, 0, 1)), True)
        self.assertIs(is_certified(("hangs", idle, (3, 0)), False, ways(idle)), False)
        self.assertIs(is_certified(("hangs", idle, (3, 0)), False, ask(0, 0, ask(3, 0, 0, 0), 1)), False)
        self.assertIs(is_certified(("hangs", idle, (3, 0)), False, ask(0, 0, 0, ask(5, 0, 1, ask(3, 0, 1, 1)))), False)
        self.assertIs(is_certified(("hangs", idle, (3, 0)), False, ask(0, 0, 0, ask(5, 0, 1, ask(3, 1, 1, 1)))), False)
        self.assertIs(is_certified(("hangs", idle, (3, 0)), False, ask(0, 0, 0, ask(5, 0, 1, ask(4, 0, 1, 1)))), True)
        self.assertIs(is_certified(("hangs", idle, (3, 0)), False, certified(("hangs", idle, (3, 0)))[1]), True)

    def test_share(self):
        for a, b, answer in ((1, 6, True), (2, 12, True), (10 ** 30, 6 * 10 ** 30, True), (1, 5, False), (0, 6, False), (0, 1, False), (6, 1, False),
                             (1, 1, False)):
            two = program("if r[0] then count(s[0]) = 1 else 0:2", 2, 3)
            self.assertIs(answer_to(("share", two, a, b)), answer)
            self.assertIs(is_certified(("share", two, a, b), answer, ways(two)), True)
            self.assertIs(is_certified(("share", two, a, b), answer, end(0)), False)
            self.assertIs(is_certified(("share", two, a, b), not answer, ways(two)), False)
        self.assertIs(answer_to(("share", program("0:2", 2), 0, 7)), True)
        self.assertIs(answer_to(("share", program("1:2", 2), 7, 7)), True)

    def test_occurs(self):
        both = program("(r[0], count(r[1]) * 3)", 2)
        for value, answer in (((0, 3), True), ((1, 0), True), ((1, 1), False), ((0, TOP), False)):
            self.assertIs(answer_to(("occurs", both, value)), answer)
            told, certificate = certified(("occurs", both, value))
            self.assertIs(is_certified(("occurs", both, value), told, certificate), True)
        self.assertIs(is_certified(("occurs", both, (0, 3)), True, (((0, 0), 0), ((1, 0), 1))), True)
        self.assertIs(is_certified(("occurs", both, (0, 3)), True, (((0, 0), 0),)), False)


class ErrorTest(unittest.TestCase):
    def check(self, question, *told):
        self.assertEqual(told_by(answer_to, question), told)
        self.assertEqual(told_by(certified, question), told)
        for answer, certificate in ((True, end(1)), (False, ()), (True, None), (7, "x")):
            self.assertEqual(told_by(is_certified, question, answer, certificate), told)

    def test_wrong_kinds(self):
        great = read_term(f"fn r : rows 2. {BIG} + count(r[0])")
        great_three = read_term(f"fn r : rows 2. as 3 ({BIG} + count(r[0]))")
        great_truth = read_term(f"fn r : rows 2. {BIG} = count(r[0])")
        for term in (P, great, great_three, program("(1:2, 1:2)", 2), program("r[0]", 3), program("7")):
            self.check(("holds", term), "WrongKind")
            self.check(("can hold", term), "WrongKind")
            self.check(("share", term, 1, 2), "WrongKind")
            self.check(("share", term, 1, 0), "WrongKind")
        for one, two in ((P, great_truth), (great, great_three), (great_truth, great), (P, program("count(s[0])", 3, 2)), (P, program("1", 3)),
                         (P, program("1")), (great, program("1", 3)), (program("1", 2, 3), program("1", 3, 2))):
            self.check(("same", one, two), "WrongKind")
        for term, values in ((great_truth, (2, -1, True, False, None, "0", (), (0, 1))), (great, (TOP + 1, -1, True, "1", None, (0,), (0, 0))),
                             (great_three, (3, False)), (program("(r[0], 1)", 2), (0, (0,), (2, 0), (0, TOP + 1), (0, True), (0, 1, 2), ((0, 0), 0)))):
            for value in values:
                self.check(("occurs", term, value), "WrongKind")
        for place in ((0, 1), (0, 2), (0, -1), (-1, 0), (TOP + 1, 0), (True, 0), (0, False), 0, None, (), (0,), (0, 0, 0), "00", ("0", 0)):
            self.check(("hangs", great, place), "WrongKind")
        self.check(("hangs", program("7"), (0, 0)), "WrongKind")

    def test_bad_numbers(self):
        great_truth = read_term(f"fn r : rows 2. {BIG} = count(r[0])")
        for b in (0, -1, -7):
            self.check(("share", program("r[0]", 2), 1, b), "BadNumber", b)
            self.check(("share", great_truth, 1, b), "BadNumber", b)
        self.assertIs(answer_to(("share", program("r[0]", 2), 1, 2)), True)
        self.assertIs(answer_to(("share", program("r[0]", 2), 1, 1)), False)

    def test_programs_that_are_not_small(self):
        great_truth = read_term(f"fn r : rows 2. {BIG} = count(r[0])")
        for question in (("holds", great_truth), ("can hold", great_truth), ("occurs", great_truth, 1), ("hangs", great_truth, (0, 0)),
                         ("share", great_truth, 1, 2), ("same", great_truth, great_truth)):
            self.assertIn(what_of(answer_to, question), ("program", None))
        self.assertIs(is_right_tree(great_truth, None), False)


if __name__ == "__main__":
    unittest.main()
