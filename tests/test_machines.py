"""DOC.md part O, [107] to [110], and the heading allendless/machines.py."""

import random
import unittest

from allendless.machines import first_reader, is_machine, machine_of, read, read_all, run_on, states_at
from tests.filling import ask, end, great_least, nodes_of, other_order, value_at
from tests.making import Maker
from tests.tables import comings, first_told, leafy, machine_by_tables, moments, place_at, rows_of, tell_of
from tests.wrong import told_by, what_of

EXAMPLE = ask(1, 0, 4, ask(0, 0, 4, 6))
MACHINE = ((2,), ((("go", (0, 1)),), (("told", 4), ("go", (0, 1))), (("told", 4), ("told", 6))))
MENUS = ((2,), (3,), (2, 2), (2, 3), (3, 2), (2, 2, 2))


def trees(many, values=(0, 1, 2)):
    """(menu, tree) for many seeds."""
    for seed in range(many):
        menu = MENUS[seed % len(MENUS)]
        length = {1: 4, 2: 2, 3: 2}[len(menu)] if sum(menu) < 6 else 2
        places = [(i, k) for i in range(length) for k in range(len(menu))]
        yield menu, Maker(seed).tree(menu, places, values, 4)


class FormTest(unittest.TestCase):
    def test_machines(self):
        for value in (MACHINE, ((), ((("told", 0),),)), ((2, 3), ((("told", (1, (2, 10 ** 30))),),)),
                      # States that are not come to, doubled ones, and told ones that come late.
                      ((2,), ((("go", (0, 0)),), (("told", 1), ("told", 1), ("told", 7)))),
                      ((2, 9), ((("go", (0, 1)),), (("told", 1), ("go", (0,) * 9)), (("told", 3),))),
                      ((2,), ((("told", 1),), (("told", 1),))),
                      ((2,), ((("go", (0, 0)),),) + ((("go", (0, 0)),),) * 399 + ((("told", 0),),)),
                      ((2,), ((("go", (0, 1998)),), (("told", 0),) * 1999))):
            self.assertIs(is_machine(value), True)

    def test_values_that_are_none(self):
        last = (("told", 4), ("told", 6))
        for value in (
                None, 0, (), ((2,),), ((2,), ()), ((2,), ((),)), ((2,), ((("go", (0, 1)),),)), ((2,), ((("go", (0, 2)),), last)),
                ((2,), ((("go", (0, 1, 1)),), last)), ((2,), ((("go", (0,)),), last)), ((2,), ((("go", (0, -1)),), last)),
                ((2,), ((("go", (0, True)),), last)), ((2,), ((("go", (False, 1)),), last)), ((2,), ((("told", -1),),)),
                ((2,), ((("told", True),),)), ((2,), ((("told", None),),)), ((2,), ((("told", (1, 2, 3)),),)), ((2,), ((("told", "1"),),)),
                ((2,), ((("told", (1, True)),),)), ((2,), ((("told",),),)), ((2,), ((("told", 1, 2),),)), ((2,), ((("on", (0, 1)),), last)),
                ((1,), ((("told", 1),),)), ((10,), ((("told", 1),),)), ((True,), ((("told", 1),),)), (2, ((("told", 1),),)),
                ((2, 2, 2, 2, 2), ((("told", 1),),)), ([2], ((("told", 1),),)), ((2,), ((("told", 1), ("told", 2)),)),
                ((2,), ((("go", (0, 1)),), last, (("go", (0, 0)),))), ((), ((("told", 1),), (("told", 1),))), ((), ((("go", ()),),)),
                ((), ((("go", ()),), (("told", 1),))), ((2,), ((("go", (0, 1)),), (("told", 4), ("go", (0, 0))))), ((2,), (("told", 1),)),
                ((2,), ("told",)), ((2,), 5), ((2,), ((5,),)), ((2,), ((("go", 5),), last)), ((2,), [(("told", 1),)]),
                ((2,), ((("go", (0, 0)),),) * 401 + ((("told", 0),),)), ((2,), ((("go", (0, 1)),), (("told", 0),) * 2000)),
                ((3, 2), ((("go", (0, 1)),), last)), ((2, 3), ((("go", (0, 0)),), (("go", (0, 1)),), last)), (MACHINE[0], MACHINE[1], 0),
                (MACHINE[1], MACHINE[0]), ((2,), (5,)), ((2,), ((("told", 1),), ())), ((2,), ([("told", 1)],)), ((2,), (None,)),
                ((2,), ((("told", 1),), None)), ((2,), (((0, 1),),))):
            self.assertIs(is_machine(value), False, value)

    def test_deep_values(self):
        deep = 0
        for _ in range(150):
            deep = (deep, 1)
        self.assertIs(is_machine(((2,), ((("told", deep),),))), True)
        self.assertIs(is_machine(((2,), ((("told", (deep, "x")),),))), False)


class MachineTest(unittest.TestCase):
    def test_example(self):
        self.assertEqual(machine_of((2,), EXAMPLE), MACHINE)
        self.assertEqual(states_at(MACHINE), (1, 2, 2))
        self.assertEqual(run_on(MACHINE, (((0,), (1,)),)), (4, 1))
        self.assertEqual(run_on(MACHINE, (((), (1,)),)), (6, 2))
        self.assertEqual(run_on(MACHINE, (((1,), (0,)),)), (4, 2))

    def test_trees(self):
        rng = random.Random(9)
        for menu, tree in trees(120):
            last = moments(menu, tree)
            tell = tell_of(menu, tree)
            machine = machine_of(menu, tree)
            self.assertEqual(machine, machine_by_tables(menu, last, tell))
            self.assertIs(is_machine(machine), True)
            self.assertEqual(states_at(machine), tuple(len(level) for level in machine[1]))
            for _ in range(2):
                # A tree of the same values that asks in another order.
                self.assertEqual(machine_of(menu, other_order(rng, menu, tree)), machine)
            for digits in comings(menu, 0, last):
                self.assertEqual(run_on(machine, rows_of(menu, digits)), first_told(menu, last, tell, digits))

    def test_told_rows(self):
        for menu, tree in trees(40):
            machine = machine_of(menu, tree)
            rows = tuple(Maker(menu[0]).told(size) for size in menu)
            known = {place_at(menu, t): entry_at(rows, place_at(menu, t)) for t in range(12)}
            self.assertEqual(run_on(machine, rows)[0], value_at(tree, known))

    def test_edges(self):
        self.assertEqual(machine_of((), end(5)), ((), ((("told", 5),),)))
        self.assertEqual(machine_of((2, 3), end((1, 2))), ((2, 3), ((("told", (1, 2)),),)))
        self.assertEqual(machine_of((2, 3), ask(0, 1, 7, 7, 7)), ((2, 3), ((("told", 7),),)))
        self.assertEqual(machine_of((2, 3), ask(0, 1, 7, 8, 7)),
                         ((2, 3), ((("go", (0, 0)),), (("go", (0, 1, 0)),), (("told", 7), ("told", 8)))))
        # A value told at one level, and again at a later one.
        self.assertEqual(states_at(machine_of((2,), ask(0, 0, 1, ask(2, 0, 1, 2)))), (1, 2, 1, 2))

    def test_levels(self):
        # Index 99 of four rows: 401 levels; index 100 is too much.
        menu = (2, 2, 2, 2)
        machine = machine_of(menu, ask(99, 3, 0, 1))
        self.assertEqual(states_at(machine), (1,) * 400 + (2,))
        self.assertIs(is_machine(machine), True)
        self.assertEqual(run_on(machine, (((), (0,)),) * 3 + (((0,) * 99 + (1,), (0,)),)), (1, 400))
        for tree in (ask(100, 0, 0, 1), ask(100, 3, 0, 1), ask(0, 0, 0, ask(10 ** 18 - 1, 1, 0, 1))):
            self.assertEqual(told_by(machine_of, menu, tree), ("TooGreat", "levels"))
        # It is the index of the least tree that counts.
        self.assertEqual(machine_of((2,), ask(100, 0, EXAMPLE, EXAMPLE)), MACHINE)
        self.assertEqual(states_at(machine_of((2,), ask(99, 0, 0, 1))), (1,) * 100 + (2,))

    def test_states(self):
        # 31 asks; then for each index i the 32 functions that are left go on through i - 4 levels, to two values.
        indices = [64] * 31 + [49]
        self.assertEqual(31 + sum(i - 4 + 2 for i in indices), 2000)
        machine = machine_of((2,), leafy(indices))
        self.assertEqual(sum(states_at(machine)), 2000)
        self.assertIs(is_machine(machine), True)
        self.assertEqual(states_at(machine)[:6], (1, 2, 4, 8, 16, 32))
        self.assertEqual(told_by(machine_of, (2,), leafy([64] * 31 + [50])), ("TooGreat", "states"))
        # Levels come ahead of states, the tree ahead of both.
        self.assertEqual(told_by(machine_of, (2,), leafy([100] + [90] * 31)), ("TooGreat", "levels"))
        self.assertEqual(told_by(machine_of, (2,), leafy([99] + [90] * 31)), ("TooGreat", "states"))

    def test_nodes(self):
        great, greater = great_least(998, 1), great_least(1000, 0)
        self.assertEqual((nodes_of(great), nodes_of(greater)), (2000, 2001))
        self.assertIn(what_of(machine_of, (2, 3), great), (None, "states"))
        self.assertEqual(told_by(machine_of, (2, 3), greater), ("TooGreat", "tree"))
        self.assertIsNone(what_of(machine_of, (2, 3), great_least(300, 0)))
        # Few nodes, but more than 2,000 once places ascend; index 100 comes behind this.
        for many, word in ((9, "tree"), (8, "levels")):
            made = end(0)
            for i in range(many):
                made = ask(i, 0, made, ask(100 if i == 0 else i + 20, 0, 0, 1))
            self.assertLess(nodes_of(made), 50)
            self.assertEqual(told_by(machine_of, (2,), made), ("TooGreat", word))


def entry_at(rows, place):
    beginning, around = rows[place[1]]
    i = place[0]
    return beginning[i] if i < len(beginning) else around[(i - len(beginning)) % len(around)]


class ReaderTest(unittest.TestCase):
    def test_example(self):
        self.assertEqual(first_reader(MACHINE), ("on", (0, 0)))
        self.assertEqual(read_all(MACHINE, (0, 0), (1, 1, 0)), (("told", 6, 2), 2))
        self.assertEqual(read_all(MACHINE, (0, 0), ()), (("on", (0, 0)), 0))
        self.assertEqual(read_all(MACHINE, (0, 0), (1,)), (("on", (1, 1)), 1))
        self.assertEqual(read_all(MACHINE, (1, 1), (0, 1, 1, 1)), (("told", 4, 2), 1))
        self.assertEqual(read(MACHINE, (0, 0), 0), ("told", 4, 1))
        self.assertEqual(read(MACHINE, (0, 0), 1), ("on", (1, 1)))
        self.assertEqual(first_reader(((), ((("told", 3),),))), ("told", 3, 0))
        self.assertEqual(first_reader(((2,), ((("told", (3, 4)),),))), ("told", (3, 4), 0))

    def test_many_readers_in_turn(self):
        rng = random.Random(1)
        for menu, tree in trees(30):
            machine = machine_of(menu, tree)
            last = moments(menu, tree)
            held = [[digits, first_reader(machine), 0] for digits in list(comings(menu, 0, last))[:20]]
            while any(result[0] == "on" for _, result, _ in held):
                reader = rng.choice([one for one in held if one[1][0] == "on"])
                reader[1] = read(machine, reader[1][1], reader[0][reader[2]])
                reader[2] += 1
                self.assertEqual(reader[1][1][0] if reader[1][0] == "on" else reader[1][2], reader[2])
            for digits, result, many in held:
                self.assertEqual(result, ("told", *run_on(machine, rows_of(menu, digits))))
                self.assertEqual(result[2], many)

    def test_parts(self):
        rng = random.Random(2)
        for menu, tree in trees(60):
            machine = machine_of(menu, tree)
            digits = tuple(rng.randrange(menu[t % len(menu)]) for t in range(moments(menu, tree) + 3))
            first = first_reader(machine)
            if first[0] == "told":
                continue
            whole = read_all(machine, first[1], digits)
            self.assertEqual(whole[0], ("told", *run_on(machine, rows_of(menu, digits))))
            self.assertEqual(whole[1], whole[0][2])
            for cut in range(len(digits) + 1):
                result, many = read_all(machine, first[1], digits[:cut])
                self.assertEqual(many, min(cut, whole[1]))
                if result[0] == "on":
                    again, more = read_all(machine, result[1], digits[cut:])
                    self.assertEqual((again, many + more), whole)
                else:
                    self.assertEqual(result, whole[0])


if __name__ == "__main__":
    unittest.main()
