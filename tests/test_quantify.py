"""DOC.md [37] to [42], and the heading allendless/quantify.py."""

import itertools
import unittest

from allendless.judging import is_program, menu_of, result_of
from allendless.kinds import plainly_named, same_term
from allendless.plain import value_of
from allendless.quantify import bound, can_hold, holds, least_rows, value_rows, values_of
from allendless.reader import read_term
from allendless.ways import is_small
from tests import simple
from tests.filling import fillings, places_in, told_entries, value_at
from tests.making import Maker
from tests.test_ways import program
from tests.wrong import told_by, what_of

TOP = 10 ** 18 - 1
BIG = "repeat(60, fn k1 : num. repeat(60, fn k2 : num. repeat(60, fn k3 : num. k3 + 1, k2), k1), 0)"


def by_filling(term, menu):
    """The values that occur, each with the least rows, by all fillings of the places in their order."""
    tree = simple.ways(term, menu, 10 ** 9)[0]
    found = {}
    for digits in fillings(menu, places_in(tree)):
        found.setdefault(value_at(tree, digits), told_entries(digits))
    return tuple(sorted(found.items()))


class ValuesTest(unittest.TestCase):
    def test_example(self):
        term = program("if r[2] then r[0] else 1:2", 2)
        self.assertEqual(values_of(term), (0, 1))
        self.assertIs(can_hold(term), True)
        self.assertIs(holds(term), False)
        self.assertEqual(least_rows(term, 0), (((2, 0), 1),))
        self.assertEqual(least_rows(term, 1), ())
        self.assertEqual(value_rows(term), ((0, (((2, 0), 1),)), (1, ())))

    def test_programs(self):
        for text, menu, wanted in (
                ("3", (), ((3, ()),)),
                ("(2:3, (r[1], 7))", (2,), (((2, (0, 7)), ()), ((2, (1, 7)), (((1, 0), 1),)))),
                ("count(r[0]) + count(r[count(r[0])])", (2,), ((0, ()), (1, (((0, 0), 1),)), (2, (((0, 0), 1), ((1, 0), 1))))),
                ("count(r[1]) * 10 + count(s[0])", (2, 3), (
                    (0, ()), (1, (((0, 1), 1),)), (2, (((0, 1), 2),)), (10, (((1, 0), 1),)), (11, (((0, 1), 1), ((1, 0), 1))),
                    (12, (((0, 1), 2), ((1, 0), 1))))),
                ("count(r[%d])" % TOP, (3,), ((0, ()), (1, (((TOP, 0), 1),)), (2, (((TOP, 0), 2),)))),
                ("(s[0], r[0])", (2, 2), (((0, 0), ()), ((0, 1), (((0, 0), 1),)), ((1, 0), (((0, 1), 1),)), ((1, 1), (((0, 0), 1), ((0, 1), 1))))),
                # Rows that do not read entry 0 are less only by the others.
                ("if r[1] then 5 else if r[0] then 5 else 6", (2,), ((5, (((1, 0), 1),)), (6, ())))):
            self.assertEqual(value_rows(program(text, *menu)), wanted, text)
            self.assertEqual(values_of(program(text, *menu)), tuple(value for value, _ in wanted))

    def test_no_such_value(self):
        term = program("count(r[0]) * 2", 2)
        for value in (1, 3, True, (0, 0), (2,), None, "0", -1):
            self.assertIsNone(least_rows(term, value))
        self.assertEqual(least_rows(term, 2), (((0, 0), 1),))

    def test_made_rows_repeats_and_quantifiers(self):
        met = 0
        for seed in range(500):
            maker = Maker(seed)
            menu = tuple(maker.random.choice((2, 2, 3)) for _ in range(maker.random.randrange(0, 4)))
            term = maker.program(menu, maker.random.randrange(2, 7))
            try:
                tree, _, ends = simple.ways(term, menu, 20000)
            except simple.TooLong:
                ends = 501
            if ends > 500:
                self.assertEqual(what_of(values_of, term), "program")
                continue
            if len(list(fillings(menu, places_in(tree)))) > 3000:
                continue
            met += ends > 2
            wanted = by_filling(term, menu)
            self.assertEqual(value_rows(term), wanted)
            self.assertEqual(values_of(term), tuple(value for value, _ in wanted))
            for value, rows in wanted:
                self.assertEqual(least_rows(term, value), rows)
            if result_of(term) == ("few", 2):
                self.assertIs(can_hold(term), 1 in dict(wanted))
                self.assertIs(holds(term), 0 not in dict(wanted))
            else:
                self.assertEqual(told_by(holds, term), ("WrongKind",))
        self.assertGreater(met, 50)

    def test_deep_values(self):
        term = ("at", ("var", "r"), ("number", 0))
        for _ in range(1500):
            term = ("pair", ("digit", 1, 0), term)
        values = values_of(("fn", "r", ("rows", 2), term))
        self.assertEqual(len(values), 2)
        for value, digit in zip(values, (0, 1)):
            while isinstance(value, tuple):
                value = value[1]
            self.assertEqual(value, digit)
        self.assertEqual(least_rows(("fn", "r", ("rows", 2), term), values[1]), (((0, 0), 1),))


class HoldsTest(unittest.TestCase):
    def test_holding(self):
        for text, menu, some, every in (
                ("1:2", (), True, True), ("0:2", (), False, False), ("r[0]", (2,), True, False), ("count(r[0]) < 2", (2,), True, True),
                ("some s of 3. count(s[0]) = count(r[0]) + 1", (2,), True, True), ("some s of 2. count(s[0]) = count(r[0]) + 1", (2,), True, False),
                ("every s of 2. s[0]", (2,), False, False), ("count(r[0]) = count(s[0]) + 3", (2, 3), False, False)):
            term = program(text, *menu)
            self.assertIs(can_hold(term), some, text)
            self.assertIs(holds(term), every, text)
            other = program(f"if {text} then 0:2 else 1:2", *menu)
            self.assertIs(holds(other), not some)
            self.assertIs(can_hold(other), not every)

    def test_by_binding(self):
        for seed in range(150):
            maker = Maker(seed)
            menu = tuple(maker.random.choice((2, 3)) for _ in range(maker.random.randrange(0, 3)))
            term = maker.program(menu, maker.random.randrange(2, 5), ("few", 2))
            if not is_small(term):
                continue
            for word, function in (("some", can_hold), ("every", holds)):
                closed = term
                for _ in menu:
                    closed = bound(closed, 0, word)
                try:
                    self.assertEqual(value_of(closed)[0], int(function(term)))
                except ValueError:
                    self.assertFalse(is_small(closed))

    def test_wrong_kinds(self):
        for text, menu in (("1", ()), ("1:3", (2,)), ("(1:2, 0:2)", (2,)), ("0:1", ()), (BIG, (2,)), (f"(1:2, {BIG})", (2, 2))):
            for function in (holds, can_hold):
                self.assertEqual(told_by(function, program(text, *menu)), ("WrongKind",))
        great = program(f"as 2 ({BIG})", 2)
        for function in (holds, can_hold, values_of, value_rows):
            self.assertEqual(what_of(function, great), "program")
        self.assertEqual(what_of(least_rows, great, 0), "program")


class BoundTest(unittest.TestCase):
    def test_each_parameter_and_word(self):
        text = "count(a[0]) + count(b[1]) * 2 + count(c[2]) * 4"
        for names in (("a", "b", "c"), ("v0", "v1", "v2"), ("v1", "v0", "x"), ("v2", "v3", "v1")):
            body = text.replace("a[", names[0] + "[").replace("b[", names[1] + "[").replace("c[", names[2] + "[")
            for number, word in itertools.product(range(3), ("least", "greatest")):
                term = read_term("".join(f"fn {name} : rows {m}. " for name, m in zip(names, (2, 3, 4))) + body)
                made = bound(term, number, word)
                left = [at for at in range(3) if at != number]
                heads = "".join(f"fn {names[at]} : rows {(2, 3, 4)[at]}. " for at in left)
                wanted = read_term(f"{heads}{word} {names[number]} of {(2, 3, 4)[number]}. {body}")
                self.assertEqual(made, plainly_named(wanted))
                self.assertIs(is_program(made), True)
                self.assertEqual(menu_of(made), tuple((2, 3, 4)[at] for at in left))
            for number, word in itertools.product(range(3), ("some", "every")):
                heads = "".join(f"fn {name} : rows {m}. " for name, m in zip(names, (2, 3, 4)))
                made = bound(read_term(f"{heads}{body} = 5"), number, word)
                left = [at for at in range(3) if at != number]
                heads = "".join(f"fn {names[at]} : rows {(2, 3, 4)[at]}. " for at in left)
                self.assertEqual(made, plainly_named(read_term(f"{heads}{word} {names[number]} of {(2, 3, 4)[number]}. {body} = 5")))

    def test_plain_names(self):
        self.assertEqual(bound(program("r[0]", 2), 0, "some"), ("some", "v0", 2, ("at", ("var", "v0"), ("number", 0))))
        term = read_term("fn v1 : rows 2. fn v0 : rows 3. some x of 2. count(v1[0]) + count(v0[0]) = count(x[0])")
        self.assertEqual(bound(term, 0, "every"), read_term(
            "fn v0 : rows 3. every v1 of 2. some v2 of 2. count(v1[0]) + count(v0[0]) = count(v2[0])"))

    def test_one_behind_another(self):
        term = read_term("fn r : rows 2. fn s : rows 3. count(r[0]) = count(s[0])")
        self.assertEqual(value_of(bound(bound(term, 1, "some"), 0, "every")), value_of(read_term("every r of 2. some s of 3. count(r[0]) = count(s[0])")))
        self.assertEqual(value_of(bound(bound(term, 1, "some"), 0, "every"))[0], 1)
        self.assertEqual(value_of(bound(bound(term, 0, "every"), 0, "some"))[0], 0)
        self.assertEqual(value_of(bound(bound(term, 0, "some"), 0, "every"))[0], 0)
        for word in ("some", "every"):
            self.assertEqual(value_of(bound(bound(term, 0, word), 0, word))[0], value_of(bound(bound(term, 1, word), 0, word))[0])

    def test_what_is_bound_is_true(self):
        for seed in range(200):
            maker = Maker(seed)
            menu = tuple(maker.random.choice((2, 3)) for _ in range(maker.random.randrange(1, 4)))
            result = maker.random.choice((("few", 2), ("num",)))
            term = maker.program(menu, maker.random.randrange(2, 5), result)
            number = maker.random.randrange(len(menu))
            for word in ("some", "every") if result == ("few", 2) else ("least", "greatest"):
                made = bound(term, number, word)
                self.assertIs(is_program(made), True)
                self.assertEqual(result_of(made), result)
                self.assertEqual(made, plainly_named(made))
                if is_small(made) and is_small(term):
                    self.check(term, menu, number, word, made)

    def check(self, term, menu, number, word, made):
        tree = simple.ways(term, menu, 20000)[0]
        other = simple.ways(made, menu[:number] + menu[number + 1:], 20000)[0]
        places = places_in(tree)
        if len(list(fillings(menu, places))) > 2000:
            return
        values = {}
        for digits in fillings(menu, places):
            rest = tuple(sorted(((i, k - (k > number)), digit) for (i, k), digit in digits.items() if k != number))
            values.setdefault(rest, []).append(value_at(tree, digits))
        pick = {"some": max, "every": min, "least": min, "greatest": max}[word]
        for rest, held in values.items():
            self.assertEqual(value_at(other, dict(rest)), pick(held))

    def test_wrong(self):
        term = program("r[0]", 2, 3)
        for number in (2, -1, 10 ** 30, True):
            for word in ("some", "least"):
                self.assertEqual(told_by(bound, term, number, word), ("OutOfRange", number))
        self.assertEqual(told_by(bound, program("1:2"), 0, "some"), ("OutOfRange", 0))
        for text, words in (("r[0]", ("least", "greatest")), ("count(r[0])", ("some", "every")), ("1:3", ("some", "every", "least", "greatest")),
                            ("(1, 2)", ("some", "every", "least", "greatest")), (BIG, ("some",)), (f"as 2 ({BIG})", ("least",))):
            for word in words:
                self.assertEqual(told_by(bound, program(text, 2), 0, word), ("WrongKind",))
        # Binding works with no runs.
        self.assertEqual(bound(program(BIG, 2), 0, "least")[0], "least")

    def test_quantifiers_change_places(self):
        # Wherever "some r every s" is 1, "every s some r" is 1, too.
        for seed in range(60):
            maker = Maker(seed)
            term = maker.program((2, 2), 4, ("few", 2))
            if not is_small(term):
                continue
            try:
                strong = value_of(bound(bound(term, 1, "every"), 0, "some"))[0]
                weak = value_of(bound(bound(term, 0, "some"), 0, "every"))[0]
            except ValueError:
                continue
            self.assertLessEqual(strong, weak)

    def test_same_names(self):
        term = program("count(r[0]) + count(s[1])", 2, 3)
        self.assertIs(same_term(bound(term, 0, "least"), read_term("fn s : rows 3. least r of 2. count(r[0]) + count(s[1])")), True)


if __name__ == "__main__":
    unittest.main()
