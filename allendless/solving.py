"""Solving: patterns, least and greatest solutions, forced entries, beginnings that go on, systems, best solutions."""

from allendless.data import is_between, power
from allendless.errors import OutOfRange
from allendless.joint import all_hold, joint_tree
from allendless.leasttrees import least_of
from allendless.needed import Functions
from allendless.trees import ends_of


def patterns(menu, tree):
    """The known entries on the paths of a condition's least tree to 1."""
    functions = Functions()
    made = least_of(functions, functions.number_of(tree), None)
    return tuple([known for known, value in ends_of(made) if value == 1])


def has_solution(functions, number):
    """Whether a kept condition is 1 on some rows."""
    return functions.lowests[number] is not None or functions.ends[number][1] == 1


def solution_entries(functions, number, is_wanted, is_greatest):
    """The entries that are asked along the way of the least or the greatest rows with a wanted end, a dict.

    is_wanted(part) tells whether such an end is to be come to from a part.
    """
    entries = {}
    top = functions.top_of(number)
    while top[0] == "ask":
        digits = [digit for digit, branch in enumerate(top[2]) if is_wanted(branch)]
        digit = digits[-1] if is_greatest else digits[0]
        entries[top[1]] = digit
        top = functions.top_of(top[2][digit])
    return entries


def _solution(tree, is_greatest):
    """The entries along the way of the least or the greatest solution, or None."""
    functions = Functions()
    number = functions.number_of(tree)
    if not has_solution(functions, number):
        return None

    def is_wanted(part):
        return has_solution(functions, part)
    return solution_entries(functions, number, is_wanted, is_greatest)


def without(entries, digits):
    """The known entries of a dict of entries, without those that have the digit of their row in a tuple."""
    return tuple([(place, entries[place]) for place in sorted(entries) if entries[place] != digits[place[1]]])


def least_solution(menu, tree):
    """The entries other than 0 of the least solution, or None."""
    entries = _solution(tree, False)
    return None if entries is None else without(entries, (0,) * len(menu))


def greatest_solution(menu, tree):
    """The entries of the greatest solution other than the greatest digits, or None."""
    entries = _solution(tree, True)
    return None if entries is None else without(entries, tuple([size - 1 for size in menu]))


def forced(menu, tree):
    """The entries that all solutions have, or None if there are no solutions."""
    found = patterns(menu, tree)
    if not found:
        return None
    common = {entry: True for entry in found[0]}
    for pattern in found:
        common = {entry: True for entry in pattern if entry in common}
    return tuple(sorted(common))


class Beginnings:
    """How many beginnings of a length go on, from each part of a condition's least tree."""

    def __init__(self, m, tree, length):
        self.m = m
        self.length = length
        self.functions = Functions()
        self.number = self.functions.number_of(tree)
        self.counts = {}
        for part in self.functions.parts_of(self.number):
            top = self.functions.top_of(part)
            if top[0] == "ask" and top[1][0] < length:
                self.counts[part] = sum([self.many_from(branch, top[1][0] + 1) for branch in top[2]])

    def many_from(self, part, i):
        """How many go on, the entries below i being known and having led to a part."""
        if part in self.counts:
            place = self.functions.lowests[part]
            return power(self.m, place[0] - i) * self.counts[part]
        # No further entry is asked: either none goes on or all do.
        return power(self.m, self.length - i) if has_solution(self.functions, part) else 0

    def left_at(self, part, i, digit):
        """The part that entry i leads to."""
        return self.functions.left_at(part, (i, 0), digit)


def many_beginnings(m, tree, n):
    """How many tuples of n digits begin a solution."""
    held = Beginnings(m, tree, n)
    return held.many_from(held.number, 0)


def nth_beginning(m, tree, n, j):
    """The beginning of n digits with the number j of those that go on."""
    held = Beginnings(m, tree, n)
    part = held.number
    if not is_between(j, 0, held.many_from(part, 0) - 1):
        raise OutOfRange(j)
    digits = []
    for i in range(n):
        digit = 0
        many = held.many_from(held.left_at(part, i, 0), i + 1)
        while j >= many:
            j -= many
            digit += 1
            many = held.many_from(held.left_at(part, i, digit), i + 1)
        digits.append(digit)
        part = held.left_at(part, i, digit)
    return tuple(digits)


def beginning_number(m, tree, beginning):
    """How many beginnings that go on are below a tuple of as many digits."""
    held = Beginnings(m, tree, len(beginning))
    part = held.number
    number = 0
    for i, digit in enumerate(beginning):
        number += sum([held.many_from(held.left_at(part, i, lesser), i + 1) for lesser in range(digit)])
        part = held.left_at(part, i, digit)
    return number


def common_beginning(m, tree):
    """The longest tuple with which all solutions begin; None if there are none."""
    found = forced((m,), tree)
    if found is None:
        return None
    entries = {place: digit for place, digit in found}
    digits = []
    while (len(digits), 0) in entries:
        digits.append(entries[(len(digits), 0)])
    return tuple(digits)


def is_solved(trees):
    """Whether some rows solve all of some conditions."""
    functions = Functions()
    return has_solution(functions, functions.number_of(all_hold(trees, None)))


def clash(menu, trees):
    """The numbers of conditions that have no common solution, each of them being needed for that; None if solved."""
    if is_solved(trees):
        return None
    left = list(range(len(trees)))
    for number in range(len(trees) - 1, -1, -1):
        others = [other for other in left if other != number]
        if not is_solved([trees[other] for other in others]):
            left = others
    return tuple(left)


def _value_if_solved(told):
    # 0 is for what is no solution, so values are one more.
    return told[1] + 1 if told[0] == 1 else 0


def best_solution(menu, tree, condition):
    """The greatest value of a tree on a solution, and the least solution with it; None if there is no solution."""
    functions = Functions()
    number = functions.number_of(joint_tree((condition, tree), _value_if_solved, {}))
    greatest = functions.folded(number, _own_value, _greatest_value)
    if greatest[number] == 0:
        return None

    def is_wanted(part):
        return greatest[part] == greatest[number]
    entries = solution_entries(functions, number, is_wanted, False)
    return (greatest[number] - 1, without(entries, (0,) * len(menu)))


def _own_value(value):
    return value


def _greatest_value(place, values):
    return max(values)
