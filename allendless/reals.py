"""Rows of few 3 as real numbers, and programs that work with them."""

from allendless.begun import cut_tree, entries_tree, many_parameters, sum_of_digits, sums_tree
from allendless.data import power
from allendless.errors import TooGreat
from allendless.moduli import modulus
from allendless.needed import Functions
from allendless.ratios import ratio
from allendless.reader import read_term

DIGITS = 3
MOST_REACH = 24

# Rows of one number have sums of beginnings that differ by at most this, and so have results that respect numbers.
NEAR = 2

NEGATED = "fn r : rows 3. row i of 3. as 3 (2 - count(r[i]))"
HALVED = "fn r : rows 3. row i of 3. if i = 0 then 1:3 else r[i - 1]"

# u(k) is the sum of both entries k. 1 more than the c of entry k is half of it; if it is odd, rounded up or down by
# the next one. Entry k + 1 is u(k), and this of entry k + 1, less twice this of entry k.
AVERAGE = (
    "fn r : rows 3. fn s : rows 3. (fn u : num -> num. (fn c : num -> num -> num. row i of 3. "
    "as 3 (if i = 0 then c(u(0))(1) else (fn a : num. (fn b : num. a + c(b)(i + 1) - 2 * c(a)(i))(u(i)))(u(i - 1))))"
    "(fn x : num. fn j : num. if x | 2 = 0 then x / 2 else if x / 2 + 1 < u(j) then x / 2 + 1 else x / 2))"
    "(fn k : num. count(r[k]) + count(s[k]))"
)


def sum_of(entries):
    """The sum of a beginning."""
    return sum_of_digits(entries)


def value_of(row):
    """The number of a told row."""
    beginning, around = row
    turn = power(2, len(around)) - 1
    return ratio(sum_of(beginning) * turn + sum_of(around), power(2, len(beginning)) * turn)


def row_of(p, q):
    """The told row of p / q, |p| being at most q."""
    entries = []
    met = {}
    while p not in met:
        met[p] = len(entries)
        digit = 2 if 2 * p >= q else 1
        if 2 * p <= -q:
            digit = 0
        entries.append(digit)
        p = 2 * p - (digit - 1) * q
    return (tuple(entries[:met[p]]), tuple(entries[met[p]:]))


def _reach_of(program, tree):
    """The reach that a tree of entries tells."""
    return modulus((DIGITS,) * many_parameters(program), tree)


def reach(program, n):
    """The least number of entries of the parameters on which the first n entries of the result hang."""
    return _reach_of(program, entries_tree(program, n))


def _checked_tree(program, n):
    """The tree of the first n entries; TooGreat("reach") if they reach too far."""
    tree = entries_tree(program, n)
    if _reach_of(program, tree) > MOST_REACH:
        raise TooGreat("reach")
    return tree


def _first_way(first, further):
    """The labels on the first way from a state to a wanted one, or None.

    further(state) is None for a wanted state, otherwise a list of pairs (label, next state). From a state that
    was met before there is none.
    """
    steps = further(first)
    if steps is None:
        return []
    met = {first: True}
    way = []
    todo = [steps[::-1]]
    while todo:
        if not todo[-1]:
            todo.pop()
            if way:
                way.pop()
            continue
        label, state = todo[-1].pop()
        if state in met:
            continue
        met[state] = True
        steps = further(state)
        way.append(label)
        if steps is None:
            return way
        todo.append(steps[::-1])
    return None


def _ranges(functions, number):
    """The least and the greatest value of each function that is left of one."""
    def at_end(value):
        return (value, value)

    def at_ask(place, made):
        return (min([low for low, _ in made]), max([high for _, high in made]))
    return functions.folded(number, at_end, at_ask)


def _may_differ(one, other):
    """Whether some values in two ranges are not near."""
    return one[1] - other[0] > NEAR or other[1] - one[0] > NEAR


def _unlike_pairs(tree, many, length):
    """The first pairs of beginnings of one number for each parameter that lead to sums that are not near, or None.

    A state is (how many pairs of entries are told, what is left behind the first and behind the second rows,
    how far apart the sums of each parameter's beginnings are).
    """
    functions = Functions()
    number = functions.number_of(sums_tree(tree))
    ranges = _ranges(functions, number)

    def further(state):
        told, one, other, apart = state
        if not _may_differ(ranges[one], ranges[other]):
            return []
        if told == length * many:
            return None
        k = told % many
        place = (told // many, k)
        steps = []
        for first in range(DIGITS):
            for second in range(DIGITS):
                more = 2 * apart[k] + first - second
                if -NEAR <= more <= NEAR:
                    left = functions.left_at(one, place, first)
                    right = functions.left_at(other, place, second)
                    steps.append(((first, second), (told + 1, left, right, apart[:k] + (more,) + apart[k + 1:])))
        return steps
    return _first_way((0, number, number, (0,) * many), further)


def respects(program, n):
    """None if a program respects numbers as far as its first n entries tell; otherwise (j, PAIRS)."""
    tree = _checked_tree(program, n)
    many = many_parameters(program)
    for j in range(n + 1):
        begun = cut_tree(tree, j)
        way = _unlike_pairs(begun, many, _reach_of(program, begun))
        if way is not None:
            pairs = []
            for k in range(many):
                told = way[k::many]
                pairs.append((tuple([one for one, _ in told]), tuple([other for _, other in told])))
            return (j, tuple(pairs))
    return None


def _unlike_sums(tree, other):
    """The entries of the first rows with sums that are not near, a dict, or None."""
    functions = Functions()
    first = functions.number_of(sums_tree(tree))
    second = functions.number_of(sums_tree(other))
    ranges = _ranges(functions, first)
    others = _ranges(functions, second)

    def further(state):
        if not _may_differ(ranges[state[0]], others[state[1]]):
            return []
        lowests = [functions.lowests[number] for number in state]
        needed = [place for place in lowests if place is not None]
        if not needed:
            return None
        place = min(needed)
        steps = []
        for digit in range(DIGITS):
            left = (functions.left_at(state[0], place, digit), functions.left_at(state[1], place, digit))
            steps.append(((place, digit), left))
        return steps
    way = _first_way((first, second), further)
    return None if way is None else {place: digit for place, digit in way}


def same_numbers(program, other, n):
    """None if two programs give rows of one number as far as the first n entries tell; otherwise (j, BEGINNINGS)."""
    tree = _checked_tree(program, n)
    second = _checked_tree(other, n)
    many = many_parameters(program)
    for j in range(n + 1):
        one = cut_tree(tree, j)
        two = cut_tree(second, j)
        entries = _unlike_sums(one, two)
        if entries is not None:
            length = max(_reach_of(program, one), _reach_of(other, two))
            return (j, tuple([tuple([entries.get((i, k), 0) for i in range(length)]) for k in range(many)]))
    return None


def negated_term():
    """A number program for -x."""
    return read_term(NEGATED)


def halved_term():
    """A number program for x / 2."""
    return read_term(HALVED)


def average_term():
    """A number program for (x + y) / 2."""
    return read_term(AVERAGE)


def constant_term(row):
    """A number program with one parameter that gives a told row."""
    beginning, around = row
    entries = beginning + around
    made = ("digit", DIGITS, entries[-1])
    for j in range(len(entries) - 2, -1, -1):
        made = ("if", ("prim", "same", (("var", "j"), ("number", j))), ("digit", DIGITS, entries[j]), made)
    index = ("var", "i")
    length = ("number", len(beginning))
    turned = ("prim", "rest", (("prim", "less", (index, length)), ("number", len(around))))
    at = ("if", ("prim", "below", (index, length)), index, ("prim", "add", (length, turned)))
    made = ("row", "i", DIGITS, ("call", ("fn", "j", ("num",), made), at))
    return ("fn", "r", ("rows", DIGITS), made)
