"""DOC.md part N, [105] and [106], and the heading allendless/states.py."""

import itertools
import random
import unittest

from allendless.judging import kind_of
from allendless.kinds import plainly_named
from allendless.plain import run_told
from allendless.states import is_state_turner, least_states, parting_word, same_states, state_entries, state_term
from allendless.turners import entry_program, entry_tree, needs
from allendless.ways import is_small
from tests.filling import ask
from tests.wrong import told_by

# Tells 1 for an entry that is unlike the one ahead, 0 ahead of the first one.
CHANGE = (2, 2, (((0, 0), (1, 1)), ((1, 0), (0, 1))))
# Counts by 3: tells the rest of the sum of the entries so far.
SUMS = (3, 3, tuple(tuple(((state + digit) % 3, (state + digit) % 3) for digit in range(3)) for state in range(3)))


def random_turner(rng, m, k, many):
    states = tuple(tuple((rng.randrange(k), rng.randrange(many)) for _ in range(m)) for _ in range(many))
    return (m, k, states)


def doubled(rng, turner, more):
    """A turner with the same results: some states stand twice, some are not come to, all but the first renumbered."""
    m, k, states = turner
    many = len(states)
    first = list(range(many)) + [rng.randrange(many) for _ in range(more)]
    twins = {state: [at for at, held in enumerate(first) if held == state] for state in range(many)}
    made = [tuple((entry, rng.choice(twins[other])) for entry, other in states[held]) for held in first]
    made += [tuple((rng.randrange(k), rng.randrange(len(first))) for _ in range(m)) for _ in range(rng.randrange(2))]
    order = list(range(1, len(made)))
    rng.shuffle(order)
    return renumbered((m, k, tuple(made)), [0] + order)


def renumbered(turner, order):
    """State number order[i] becomes state i."""
    m, k, states = turner
    place = {state: at for at, state in enumerate(order)}
    return (m, k, tuple(tuple((entry, place[other]) for entry, other in states[state]) for state in order))


def told_from(turner, state, word):
    told = []
    for digit in word:
        entry, state = turner[2][state][digit]
        told.append(entry)
    return tuple(told), state


def words(m, length):
    return itertools.product(range(m), repeat=length)


def least_by_words(turner):
    """The least state turner, states being told apart by what they tell for all words that are long enough."""
    m, k, states = turner
    length = min(len(states), 5)
    told = [tuple(told_from(turner, state, word)[0] for word in words(m, length)) for state in range(len(states))]
    met = [0]
    made = []
    while len(made) < len(met):
        pairs = []
        for entry, other in states[met[len(made)]]:
            same = [at for at, state in enumerate(met) if told[state] == told[other]]
            if not same:
                same = [len(met)]
                met.append(other)
            pairs.append((entry, same[0]))
        made.append(tuple(pairs))
    return (m, k, tuple(made))


class FormTest(unittest.TestCase):
    def test_state_turners(self):
        for value in (CHANGE, SUMS, (2, 9, (((8, 0), (0, 0)),)), (9, 2, (((1, 0),) * 9,)), (2, 2, (((0, 199), (1, 0)),) * 200)):
            self.assertIs(is_state_turner(value), True)

    def test_values_that_are_none(self):
        for value in (
                None, 0, "", (), (2, 2), (2, 2, ()), (2, 2, (((0, 0), (1, 1)),)), (2, 2, (((0, 0), (2, 0)),)), (2, 2, (((0, 0),),)),
                (2, 2, (((0, 0), (1, 0), (1, 0)),)), (1, 2, (((0, 0),),)), (10, 2, (((0, 0),) * 10,)), (2, 1, (((0, 0), (0, 0)),)),
                (2, 10, (((0, 0), (0, 0)),)), (True, 2, (((0, 0), (1, 0)),)), (2, True, (((0, 0), (0, 0)),)), (2, 2, (((0, 0), (-1, 0)),)),
                (2, 2, (((0, 0), (1, -1)),)), (2, 2, (((0, 0), (True, 0)),)), (2, 2, (((0, 0), (1, False)),)), (2, 2, (((False, 0), (1, 0)),)),
                (2, 2, (((0, 0), (1,)),)), (2, 2, (((0, 0), (1, 0, 0)),)), (2, 2, (((0, 0), 1),)), (2, 2, (0, 1)), (2, 2, 0),
                (2, 2, (((0, 0), None),)), (2, 2, (((0, 200), (1, 0)),) * 200), (2, 2, (((0, 0), (1, 0)),) * 201),
                (2, 2, [((0, 0), (1, 0))]), ("2", 2, (((0, 0), (1, 0)),)), (2, 2, (((0, 0), ("1", 0)),)), (2, 2, (((0, 0), (1, 0)),), 0),
                (2, 2, (((0, 0), (1, 1)), ((1, 0), (0, 2)))), (2, 2, "ab"), (2, 2, ("ab",))):
            self.assertIs(is_state_turner(value), False, value)

    def test_entries(self):
        self.assertEqual(state_entries(CHANGE, (0, 1, 1, 0, 0)), (0, 1, 0, 1, 0))
        self.assertEqual(state_entries(CHANGE, ()), ())
        self.assertEqual(state_entries(SUMS, (1, 1, 1, 2, 0)), (1, 2, 0, 2, 2))
        rng = random.Random(0)
        for _ in range(50):
            turner = random_turner(rng, rng.randrange(2, 10), rng.randrange(2, 10), rng.randrange(1, 9))
            word = tuple(rng.randrange(turner[0]) for _ in range(30))
            self.assertEqual(state_entries(turner, word), told_from(turner, 0, word)[0])


class LeastTest(unittest.TestCase):
    def test_random_turners(self):
        rng = random.Random(1)
        sizes = set()
        for seed in range(150):
            turner = random_turner(rng, 2 + seed % 2, 2, rng.randrange(1, 6))
            found = least_states(turner)
            self.assertEqual(found, least_by_words(turner))
            self.assertIs(is_state_turner(found), True)
            self.assertEqual(least_states(found), found)
            sizes.add(len(found[2]) - len(turner[2]))
            other = doubled(rng, turner, rng.randrange(4))
            self.assertEqual(least_states(other), found)
            self.assertIs(same_states(turner, other), True)
            self.assertIsNone(parting_word(turner, other))
        self.assertGreater(len(sizes), 2)

    def test_examples(self):
        self.assertEqual(least_states(CHANGE), CHANGE)
        # States that are not come to, and state 0 met again.
        self.assertEqual(least_states((2, 2, (((0, 2), (1, 0)), ((1, 1), (1, 1)), ((1, 2), (0, 0))))),
                         (2, 2, (((0, 1), (1, 0)), ((1, 1), (0, 0)))))
        self.assertEqual(least_states((2, 3, (((2, 1), (0, 1)), ((2, 0), (0, 1))))), (2, 3, (((2, 0), (0, 0)),)))
        # Numbered as they are met: those of state 0 first, by digits.
        self.assertEqual(least_states(renumbered(SUMS, [0, 2, 1])), SUMS)

    def test_many_states(self):
        # A wheel of 200 states whose last one alone tells another digit; and one that is 40 times a wheel of 5.
        wheel = (2, 2, tuple(((int(at == 199), (at + 1) % 200), (0, at)) for at in range(200)))
        self.assertEqual(least_states(wheel), wheel)
        five = (2, 2, tuple(((int(at % 5 == 4), (at + 1) % 200), (0, at)) for at in range(200)))
        self.assertEqual(least_states(five), (2, 2, tuple(((int(at == 4), (at + 1) % 5), (0, at)) for at in range(5))))


class SameTest(unittest.TestCase):
    def test_words(self):
        rng = random.Random(2)
        unlike = 0
        for seed in range(150):
            m, k, many, more = 2 + seed % 2, 2 + seed % 3, rng.randrange(1, 4), rng.randrange(1, 4)
            one = random_turner(rng, m, k, many)
            two = random_turner(rng, m, k, more) if seed % 2 else changed(rng, one)
            longest = len(one[2]) + len(two[2]) - 1
            parting = [word for length in range(longest + 1) for word in words(m, length)
                       if state_entries(one, word) != state_entries(two, word)]
            self.assertEqual(parting_word(one, two), parting[0] if parting else None)
            self.assertIs(same_states(one, two), not parting)
            unlike += bool(parting)
        self.assertTrue(20 < unlike < 150)

    def test_late_words(self):
        # Wheels of s and t states: unlike behind s + t - 1 entries at the latest.
        def wheel(many):
            return (2, 2, tuple(((int(at == many - 1), (at + 1) % many), (int(at == many - 1), (at + 1) % many)) for at in range(many)))
        self.assertEqual(parting_word(wheel(200), wheel(199)), (0,) * 199)
        self.assertEqual(parting_word(wheel(2), wheel(4)), (0, 0))
        late = (2, 2, tuple(((0, at + 1), (0, 0)) for at in range(199)) + (((1, 0), (0, 0)),))
        none = (2, 2, (((0, 0), (0, 0)),))
        self.assertEqual(parting_word(late, none), (0,) * 200)
        self.assertEqual(len(parting_word(late, none)), 200 + 1 - 1)
        self.assertIs(same_states(late, none), False)
        one = (2, 2, tuple(((0, at), (0, at + 1)) for at in range(199)) + (((0, 199), (1, 199)),))
        self.assertEqual(parting_word(none, one), (1,) * 200)

    def test_the_least_word(self):
        turner = (3, 2, (((0, 0), (0, 1), (0, 1)), ((0, 0), (0, 0), (1, 0))))
        other = (3, 2, (((0, 0), (0, 0), (0, 0)),))
        self.assertEqual(parting_word(turner, other), (1, 2))
        self.assertEqual(parting_word((2, 2, (((0, 0), (1, 0)),)), (2, 2, (((0, 0), (0, 0)),))), (1,))

    def test_wrong_kinds(self):
        for other in (SUMS, (2, 3, (((0, 0), (0, 0)),)), (3, 2, (((0, 0),) * 3,))):
            for one, two in ((CHANGE, other), (other, CHANGE)):
                self.assertEqual(told_by(same_states, one, two), ("WrongKind",))
                self.assertEqual(told_by(parting_word, one, two), ("WrongKind",))


def changed(rng, turner):
    """A turner with one pair changed, its states doubled."""
    m, k, states = turner
    at, digit = rng.randrange(len(states)), rng.randrange(m)
    pairs = list(states[at])
    pairs[digit] = (rng.randrange(k), rng.randrange(len(states)))
    return doubled(rng, (m, k, states[:at] + (tuple(pairs),) + states[at + 1:]), 0)


class TermTest(unittest.TestCase):
    def check(self, turner, rng, times=3):
        term = state_term(turner)
        m, k, _ = turner
        self.assertEqual(kind_of(term, ()), ("to", ("rows", m), ("rows", k)))
        self.assertEqual((term[0], term[2]), ("fn", ("rows", m)))
        self.assertEqual(plainly_named(term), term)
        for _ in range(times):
            digits = tuple(rng.randrange(m) for _ in range(60))
            told = state_entries(turner, digits)
            for n in list(range(12)) + [30, 58, 59]:
                value, _, steps = run_told(entry_program(term, n), ((digits, (0,)),))
                self.assertEqual(value, told[n])
                self.assertLessEqual(steps, 20000)

    def test_random_turners(self):
        rng = random.Random(3)
        for m, k, many in ((2, 2, 1), (2, 2, 2), (2, 2, 5), (3, 2, 7), (2, 9, 12), (9, 9, 12), (5, 3, 12), (9, 2, 1)):
            for _ in range(3):
                self.check(random_turner(rng, m, k, many), rng)
        self.check(CHANGE, rng)
        self.check(SUMS, rng)

    def test_all_entries(self):
        digits = tuple(random.Random(5).randrange(3) for _ in range(60))
        told = tuple(run_told(entry_program(state_term(SUMS), n), ((digits, (0,)),))[0] for n in range(60))
        self.assertEqual(told, state_entries(SUMS, digits))

    def test_entry_trees(self):
        self.assertEqual(entry_tree(state_term(CHANGE), 2), ask(1, 0, ask(2, 0, 0, 1), ask(2, 0, 1, 0)))
        self.assertEqual([needs(state_term(SUMS), n) for n in range(4)], [0, 1, 2, 3])
        self.assertIs(is_small(entry_program(state_term(CHANGE), 4)), True)
        # What no digit changes is not read.
        clock = (2, 2, (((0, 1), (0, 1)), ((1, 0), (1, 0))))
        self.assertEqual(needs(state_term(clock), 8), 0)

    def test_bounds(self):
        rng = random.Random(4)
        self.check(random_turner(rng, 2, 2, 12), rng, 1)
        for many in (13, 200):
            self.assertEqual(told_by(state_term, random_turner(rng, 2, 2, many)), ("TooGreat", "states"))
        # As it is passed, not as it is least.
        alike = (2, 2, (((0, 0), (1, 0)),) * 13)
        self.assertEqual(told_by(state_term, alike), ("TooGreat", "states"))
        self.check((2, 2, (((0, 0), (1, 0)),) * 12), rng, 1)


if __name__ == "__main__":
    unittest.main()
