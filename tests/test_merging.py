"""DOC.md part O, [111] and [112], and the heading allendless/merging.py."""

import random
import unittest

from allendless.leasttrees import least
from allendless.machines import is_machine, machine_of, run_on, states_at
from allendless.merging import joined, machine_behind, merged, tree_of
from allendless.states import state_entries
from allendless.trees import paired
from tests.filling import ask, end, nodes_of, tree_of as tree_by_filling
from tests.tables import comings, leafy, machine_by_tables, moments, place_at, rows_of, tell_of, tree_with
from tests.test_machines import EXAMPLE, MACHINE, trees
from tests.test_states import CHANGE, random_turner
from tests.wrong import told_by

SAME = (2, 2, (((0, 0), (1, 0)),))


def random_machine(rng, menu, levels, most, values=3):
    """A machine with states that are not come to, doubled ones, and told ones that come late."""
    counts = [1] + [rng.randrange(1, most + 1) for _ in range(levels)]
    made = []
    for t, count in enumerate(counts):
        level = []
        for _ in range(count):
            if t == levels or rng.random() < 0.15:
                level.append(("told", rng.randrange(values)))
            else:
                level.append(("go", tuple(rng.randrange(counts[t + 1]) for _ in range(menu[t % len(menu)]))))
        made.append(tuple(level))
    return (menu, tuple(made))


def told_by_machine(machine):
    def tell(digits):
        return run_on(machine, rows_of(machine[0], digits))[0]
    return tell


def last_of(machine):
    return len(machine[1]) - 1


class MergedTest(unittest.TestCase):
    def test_random_machines(self):
        rng = random.Random(0)
        smaller = 0
        for seed in range(120):
            menu = ((2,), (3,), (2, 2), (2, 3), (3, 2, 2))[seed % 5]
            machine = random_machine(rng, menu, rng.randrange(1, 6), 4, 2 + seed % 2)
            self.assertIs(is_machine(machine), True)
            found = merged(machine)
            self.assertEqual(found, machine_by_tables(menu, last_of(machine), told_by_machine(machine)))
            self.assertEqual(merged(found), found)
            self.assertIs(is_machine(found), True)
            smaller += sum(states_at(found)) < sum(states_at(machine))
            for digits in list(comings(menu, 0, last_of(machine)))[:30]:
                rows = rows_of(menu, digits)
                self.assertEqual(run_on(found, rows)[0], run_on(machine, rows)[0])
                self.assertLessEqual(run_on(found, rows)[1], run_on(machine, rows)[1])
        self.assertGreater(smaller, 60)

    def test_machines_of_trees(self):
        for menu, tree in trees(60):
            machine = machine_of(menu, tree)
            self.assertEqual(merged(machine), machine)

    def test_examples(self):
        late = ((2,), ((("go", (0, 1)),), (("go", (0, 0)), ("go", (0, 2))), (("told", 4), ("told", 9), ("told", 6))))
        self.assertEqual(merged(late), MACHINE)
        # Numbered as they are come to.
        turned = ((2,), ((("go", (1, 0)),), (("go", (1, 0)), ("told", 4)), (("told", 6), ("told", 4))))
        self.assertEqual(merged(turned), MACHINE)
        same = ((2,), ((("go", (1, 0)),), (("go", (1, 0)), ("told", 4)), (("told", 4), ("told", 4))))
        self.assertEqual(merged(same), ((2,), ((("told", 4),),)))
        self.assertEqual(merged(((), ((("told", (1, 2)),),))), ((), ((("told", (1, 2)),),)))
        # An entry that does not matter is read, as the later one has to come.
        waits = ((2, 3), ((("go", (0, 1)),), (("go", (0, 1, 1)), ("go", (1, 2, 2))), (("told", 1), ("told", 2), ("told", 2))))
        self.assertEqual(merged(waits)[1][0], (("go", (0, 1)),))
        both = ((2, 3), ((("go", (0, 1)),), (("go", (0, 1, 1)), ("go", (2, 1, 1))), (("told", 1), ("told", 2), ("told", 1))))
        self.assertEqual(merged(both), ((2, 3), ((("go", (0, 0)),), (("go", (0, 1, 1)),), (("told", 1), ("told", 2)))))

    def test_great_machines(self):
        # 401 levels; and 2,000 states of which only three are left.
        long = ((2,), tuple((("go", (0, 1)), ("go", (1, 0)))[:1 if t == 0 else 2] for t in range(400)) + ((("told", 0), ("told", 1)),))
        self.assertEqual(merged(long), long)
        self.assertEqual(states_at(merged(long)), (1,) + (2,) * 400)
        wide = ((2,), ((("go", (7, 1990)),), tuple(("told", at % 2) for at in range(1999))))
        self.assertEqual(merged(wide), ((2,), ((("go", (0, 1)),), (("told", 1), ("told", 0)))))


class TreeTest(unittest.TestCase):
    def test_random_machines(self):
        rng = random.Random(1)
        for seed in range(80):
            menu = ((2,), (3,), (2, 2), (2, 3))[seed % 4]
            machine = random_machine(rng, menu, rng.randrange(1, 6), 3)
            places = sorted(place_at(menu, t) for t in range(last_of(machine)))

            def tell(digits):
                return told_by_machine(machine)(tuple(digits[place] for place in places))
            self.assertEqual(tree_of(machine), tree_by_filling(menu, places, tell))

    def test_machines_of_trees(self):
        for menu, tree in trees(60):
            self.assertEqual(tree_of(machine_of(menu, tree)), least(menu, tree))
        self.assertEqual(tree_of(MACHINE), least((2,), EXAMPLE))
        self.assertEqual(tree_of(((), ((("told", 3),),))), end(3))

    def test_bound(self):
        for nodes in (1999, 2001):
            tree = tree_with(nodes, 0)
            self.assertEqual(nodes_of(tree), nodes)
            machine = machine_by_tables((2,), moments((2,), tree), tell_of((2,), tree))
            self.assertLess(sum(states_at(machine)), 100)
            if nodes < 2000:
                self.assertEqual(tree_of(machine), tree)
            else:
                self.assertEqual(told_by(tree_of, machine), ("TooGreat", "tree"))
        long = ((2,), tuple((("go", (0, 1)), ("go", (1, 0)))[:1 if t == 0 else 2] for t in range(400)) + ((("told", 0), ("told", 1)),))
        self.assertEqual(told_by(tree_of, long), ("TooGreat", "tree"))


class JoinedTest(unittest.TestCase):
    def test_random_machines(self):
        rng = random.Random(2)
        for seed in range(80):
            menu = ((2,), (3,), (2, 2), (2, 3))[seed % 4]
            one, two = [random_machine(rng, menu, rng.randrange(1, 5), 3) for _ in range(2)]
            found = joined(one, two)
            last = max(last_of(one), last_of(two))

            def tell(digits):
                return (told_by_machine(one)(digits), told_by_machine(two)(digits))
            self.assertEqual(found, machine_by_tables(menu, last, tell))
            self.assertEqual(merged(found), found)
            # Joined in either order.
            other = joined(two, one)
            self.assertEqual([len(level) for level in other[1]], [len(level) for level in found[1]])
            for digits in comings(menu, 0, last):
                rows = rows_of(menu, digits)
                (value, worth), t = run_on(found, rows)
                self.assertEqual(run_on(other, rows), ((worth, value), t))

    def test_machines_of_trees(self):
        for (menu, tree), (_, other) in zip(trees(60), list(trees(66))[6:]):
            wanted = machine_of(menu, paired(menu, tree, other))
            self.assertEqual(joined(machine_of(menu, tree), machine_of(menu, other)), wanted)
        self.assertEqual(joined(((), ((("told", 3),),)), ((), ((("told", (1, 2)),),))), ((), ((("told", (3, (1, 2))),),)))

    def test_a_machine_with_itself(self):
        self.assertEqual(joined(MACHINE, MACHINE), (MACHINE[0], tuple(
            tuple(("told", (state[1], state[1])) if state[0] == "told" else state for state in level) for level in MACHINE[1])))

    def test_bound(self):
        # The first and the last leaf are alike: what tells them apart makes three states more.
        for index, many in ((51, 2000), (52, 2001)):
            indices = [5] + [68] * 29 + [index] + [5]
            self.assertEqual(31 + sum(i - 4 + 2 for i in indices), many)
            values = [(2 * at, 2 * at + 1) for at in range(31)] + [(0, 1)]
            one = machine_of((2,), leafy(indices, values))
            two = machine_of((2,), ask(0, 0, 0, 1))
            self.assertEqual(sum(states_at(one)), many - 3)
            if many == 2000:
                self.assertEqual(sum(states_at(joined(one, two))), 2000)
                self.assertEqual(sum(states_at(joined(two, one))), 2000)
            else:
                self.assertEqual(told_by(joined, one, two), ("TooGreat", "states"))
                self.assertEqual(told_by(joined, two, one), ("TooGreat", "states"))

    def test_great_products(self):
        # Each has many states at one level, so there are far more pairs: it is told at once.
        def wide(base):
            return machine_of((2,), leafy([60] * 32, [(base + at, base + at + 1) for at in range(0, 64, 2)]))

        def moved(tree, by):
            return tree if tree[0] == "end" else ("ask", (tree[1][0] + by, 0), tuple(moved(branch, by) for branch in tree[2]))
        other = machine_of((2,), moved(leafy([50] * 16), 6))
        self.assertEqual(told_by(joined, wide(0), other), ("TooGreat", "states"))


class BehindTest(unittest.TestCase):
    def test_random_machines(self):
        rng = random.Random(3)
        for seed in range(100):
            m, s = ((2, 2), (3, 2), (2, 3))[seed % 3]
            turner = random_turner(rng, m, s, rng.randrange(1, 5))
            machine = random_machine(rng, (s,), rng.randrange(1, 6), 4)
            found = machine_behind(turner, machine)

            def tell(digits):
                return told_by_machine(machine)(state_entries(turner, digits))
            self.assertEqual(found, machine_by_tables((m,), last_of(machine), tell))
            self.assertIs(is_machine(found), True)

    def test_examples(self):
        wanted = machine_of((2,), ask(0, 0, 4, ask(1, 0, 6, 4)))
        self.assertEqual(machine_behind(CHANGE, MACHINE), wanted)
        self.assertEqual(machine_behind(SAME, MACHINE), MACHINE)
        self.assertEqual(machine_behind(CHANGE, ((2,), ((("told", 7),),))), ((2,), ((("told", 7),),)))
        self.assertEqual(machine_behind((3, 2, (((0, 0), (1, 0), (1, 0)),)), MACHINE)[0], (3,))

    def test_two_turners(self):
        # One by one, or the turner that they make together.
        rng = random.Random(4)
        for seed in range(40):
            one = random_turner(rng, 2, 3, rng.randrange(1, 4))
            two = random_turner(rng, 3, 2, rng.randrange(1, 4))
            machine = random_machine(rng, (2,), 4, 3)
            self.assertEqual(machine_behind(one, machine_behind(two, machine)), machine_behind(together(one, two), machine))

    def test_joined_and_behind(self):
        rng = random.Random(5)
        for _ in range(30):
            turner = random_turner(rng, 2, 2, 3)
            one, two = [random_machine(rng, (2,), 4, 3) for _ in range(2)]
            self.assertEqual(machine_behind(turner, joined(one, two)), joined(machine_behind(turner, one), machine_behind(turner, two)))

    def test_bound(self):
        # Behind CHANGE each leaf makes one state more: two at the level of its own entry.
        for index, many in ((48, 2000), (49, 2001)):
            indices = [63] * 31 + [index]
            machine = machine_of((2,), leafy(indices))
            self.assertEqual(sum(states_at(machine)), many - 32)
            self.assertEqual(machine_behind(SAME, machine), machine)
            if many == 2000:
                self.assertEqual(sum(states_at(machine_behind(CHANGE, machine))), 2000)
            else:
                self.assertEqual(told_by(machine_behind, CHANGE, machine), ("TooGreat", "states"))

    def test_many_states(self):
        # A turner of 200 states ahead of a machine of many levels.
        rng = random.Random(6)
        turner = random_turner(rng, 2, 2, 200)
        long = ((2,), tuple((("go", (0, 1)), ("go", (1, 0)))[:1 if t == 0 else 2] for t in range(12)) + ((("told", 0), ("told", 1)),))
        found = machine_behind(turner, long)
        for _ in range(50):
            digits = tuple(rng.randrange(2) for _ in range(12))
            self.assertEqual(run_on(found, (((digits), (0,)),))[0], sum(state_entries(turner, digits)) % 2)


def together(one, two):
    """The turner of what the second one tells on what the first one tells."""
    m, _, states = one
    _, k, others = two
    made = []
    for state in range(len(states)):
        for other in range(len(others)):
            pairs = []
            for entry, further in states[state]:
                told, behind = others[other][entry]
                pairs.append((told, further * len(others) + behind))
            made.append(tuple(pairs))
    return (m, k, tuple(made))


if __name__ == "__main__":
    unittest.main()
