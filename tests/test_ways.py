"""DOC.md [22] to [24], [26], and the heading allendless/ways.py."""

import unittest

from allendless.plain import run_told
from allendless.reader import read_term
from allendless.told import go_together, known_at
from allendless.trees import ends_of, is_tree, node_count, value_on, way_on
from allendless.ways import is_small, way_of, ways, work
from tests import simple
from tests.making import Maker
from tests.test_plain import term_of
from tests.wrong import what_of

P = read_term("fn r : rows 2. count(r[0]) + count(r[count(r[0])])")


def program(text, *menu):
    heads = "".join(f"fn {name} : rows {m}. " for name, m in zip("rstu", menu))
    return read_term(heads + text)


class WaysTest(unittest.TestCase):
    def test_example(self):
        self.assertEqual(ways(P), ("ask", (0, 0), (("end", 0), ("ask", (1, 0), (("end", 1), ("end", 2))))))
        self.assertEqual(work(P), (53, 3))
        self.assertIs(is_small(P), True)

    def test_ways(self):
        self.assertEqual(ways(program("(1, 1:2)")), ("end", (1, 1)))
        self.assertEqual(work(program("(1, 1:2)")), (3, 1))
        self.assertEqual(ways(program("s[3]", 2, 3)), ("ask", (3, 1), (("end", 0), ("end", 1), ("end", 2))))
        self.assertEqual(work(program("s[3]", 2, 3)), (12, 3))
        # Branches that are all the same stay, and places come as they are asked.
        self.assertEqual(ways(program("count(r[1]) * 0 + count(s[0])", 2, 2)), (
            "ask", (1, 0), (("ask", (0, 1), (("end", 0), ("end", 1))), ("ask", (0, 1), (("end", 0), ("end", 1))))))
        self.assertEqual(ways(program("r[%d]" % (10 ** 18 - 1), 2))[1], (10 ** 18 - 1, 0))

    def test_the_steps_in_quantifiers_count(self):
        # some, at, r, 0: a stop. Then twice: some; at, r, 0 and s[0], a stop; and two ends.
        text = "some s of 2. if r[0] then s[0] else 0:2"
        self.assertEqual(ways(program(text, 2)), ("ask", (0, 0), (("end", 0), ("end", 1))))
        self.assertEqual(work(program(text, 2)), (5 + (1 + 5) + (1 + 7 + 7 + 7), 2))
        text = "every s of 2. count(s[0]) = count(r[count(s[0])])"
        self.assertEqual(ways(program(text, 2)), simple.ways(program(text, 2), (2,), 20000)[0])
        self.assertEqual(work(program(text, 2)), simple.ways(program(text, 2), (2,), 20000)[1:])

    def test_ways_of_rows(self):
        for seed in range(400):
            maker = Maker(seed)
            menu = tuple(maker.random.choice((2, 2, 3)) for _ in range(maker.random.randrange(1, 5)))
            term = maker.program(menu, maker.random.randrange(2, 7))
            try:
                tree, steps, ends = simple.ways(term, menu, 20000)
            except simple.TooLong:
                tree, steps, ends = None, 0, 501
            if ends > 500:
                self.assertIs(is_small(term), False)
                self.assertEqual(what_of(work, term), "program")
                continue
            self.assertEqual(ways(term), tree)
            self.assertEqual(work(term), (steps, ends))
            self.assertIs(is_small(term), True)
            self.assertIs(is_tree(menu, tree), True)
            self.assertEqual(len(ends_of(tree)), ends)
            rows = tuple(maker.told(size) for size in menu)
            self.assertEqual(value_on(tree, rows), run_told(term, rows)[0])
            self.assertEqual(way_of(term, rows), tuple(sorted(way_on(tree, rows))))
            self.assertEqual([place for place, _ in way_on(tree, rows)], list(run_told(term, rows)[1]))
            for known, value in ends_of(tree):
                along = go_together(known, known_at(rows, tuple(place for place, _ in known)))
                self.assertIs(along, known == way_of(term, rows))

    def test_way_of(self):
        self.assertEqual(way_of(P, (((1, 0), (1,)),)), (((0, 0), 1), ((1, 0), 0)))
        self.assertEqual(way_of(P, (((), (0,)),)), (((0, 0), 0),))
        both = program("(s[1], (r[1], s[0]))", 2, 3)
        self.assertEqual(way_of(both, (((), (1,)), ((), (2, 0)))), (((0, 1), 2), ((1, 0), 1), ((1, 1), 0)))
        self.assertEqual(way_of(program("1"), ()), ())


class SmallTest(unittest.TestCase):
    def test_work(self):
        for steps in (19999, 20000):
            self.assertEqual(work(term_of(steps)), (steps, 1))
            self.assertIs(is_small(term_of(steps)), True)
            self.assertEqual(ways(term_of(steps))[0], "end")
        for steps in (20001, 30000):
            self.assertEqual(what_of(work, term_of(steps)), "program")
            self.assertIs(is_small(term_of(steps)), False)

    def test_work_of_all_runs(self):
        # An ask stops behind 5 steps; then come runs, each of 5 steps and those of the number.
        for size, steps, all_steps in ((2, 9992, 19999), (3, 6660, 20000), (4, 4994, 20001), (2, 9993, 20001)):
            total = ("prim", "add", (("count", ("at", ("var", "r"), ("number", 0))), term_of(steps)))
            term = ("fn", "r", ("rows", size), total)
            self.assertEqual(5 + size * (5 + steps), all_steps)
            self.assertIs(is_small(term), all_steps <= 20000)
            if all_steps <= 20000:
                self.assertEqual(work(term), (all_steps, size))
            else:
                self.assertEqual(what_of(work, term), "program")

    def test_ends(self):
        # 5 * 5 * 5 * 4 ends; and one more.
        text = "count(s[0]) + count(r[0]) + count(r[1]) + count(r[2])"
        term = program(text, 5, 4)
        self.assertEqual(work(term)[1], 500)
        self.assertIs(is_small(term), True)
        self.assertEqual(node_count(ways(term)), 500 + 4 * 25 + 4 * 5 + 4 + 1)
        term = program(f"if t[0] then 0 else {text}", 5, 4, 2)
        self.assertIs(is_small(term), False)
        self.assertEqual(what_of(work, term), "program")
        menu = (5, 4, 2)
        self.assertEqual(simple.ways(term, menu, 20000)[2], 501)

    def test_great_programs(self):
        for text, menu in (
                ("repeat(60, fn n : num. n + 1 + count(r[n]) * 0, 0)", (2,)),
                ("repeat(60, fn a : num. repeat(60, fn b : num. repeat(60, fn c : num. repeat(60, fn d : num. d + 1, c), b), a), 0)", ()),
                ("some s of 9. repeat(60, fn n : num. n + 1 + count(s[n]) * 0, 0) = 7", (2,)),
                ("repeat(60, fn f : num -> num. fn x : num. f(f(x)), fn y : num. y + 1)(0)", ())):
            term = program(text, *menu)
            self.assertIs(is_small(term), False)
            self.assertEqual(what_of(work, term), "program")


if __name__ == "__main__":
    unittest.main()
