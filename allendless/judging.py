"""Judging: the first fault of a value, the kind of a right term, and what a program is.

Kinds that belong to terms may be large and deep; here each unlike kind has a number, so that
they are compared by their numbers.
"""

from allendless.data import TOP, is_between
from allendless.errors import BadTerm
from allendless.kinds import OPERATIONS, is_kind, is_name, is_plain, name_bound_in, names_bound, children

MOST_PARAMETERS = 4

# How many parts the tuple of each form has.
LENGTHS = {
    "var": 2, "digit": 3, "number": 2, "prim": 3, "as": 3, "count": 2, "if": 4, "fn": 4, "call": 3,
    "pair": 3, "first": 2, "second": 2, "repeat": 4, "at": 3, "row": 4, "some": 4, "every": 4, "least": 4,
    "greatest": 4, "find": 4, "share": 5, "contest": 6,
}
OVER_ROWS = ("row", "some", "every", "least", "greatest", "find", "share", "contest")


def _begins_term(value):
    """Whether a term begins here, whatever its children are."""
    if not isinstance(value, tuple) or not value or not isinstance(value[0], str):
        return False
    word = value[0]
    if LENGTHS.get(word, 0) != len(value):
        return False
    if word == "var":
        return is_name(value[1])
    if word == "digit":
        return is_between(value[1], 1, 9) and is_between(value[2], 0, value[1] - 1)
    if word == "number":
        return is_between(value[1], 0, TOP)
    if word == "prim":
        return _is_operation(value[1]) and isinstance(value[2], tuple) and len(value[2]) == 2
    if word == "as":
        return is_between(value[1], 1, 9)
    if word == "fn":
        return is_name(value[1]) and is_kind(value[2])
    if word == "contest" and not is_name(value[3]):
        return False
    return word not in OVER_ROWS or (is_name(value[1]) and is_between(value[2], 2, 9))


def _is_operation(value):
    return isinstance(value, str) and value in OPERATIONS


def _form_fault(value):
    """The links of the path to the first place where no term begins, or None.

    A place is a pair (place of the term around it, number of the child), the value itself is ().
    """
    todo = [(value, ())]
    while todo:
        part, place = todo.pop()
        if not _begins_term(part):
            return place
        parts = children(part)
        for number in range(len(parts) - 1, -1, -1):
            todo.append((parts[number], (place, number)))
    return None


def _path_of(place):
    """The path that leads to a place."""
    path = []
    while place:
        place, number = place
        path.append(number)
    return tuple(path[::-1])


def _name_fault(term, names):
    """The first fault of the names of a term in a scope with these names, (place, word), or None."""
    bound = {name: True for name in names}
    around = {name: True for name in names}
    todo = [(term, (), None)]
    while todo:
        part, place, name = todo.pop()
        if part is None:
            del around[name]
            continue
        if name is not None:
            around[name] = True
            todo.append((None, (), name))
        for own in names_bound(part):
            if own in bound:
                return place, "twice"
            bound[own] = True
        if part[0] == "var" and part[1] not in around:
            return place, "free"
        parts = children(part)
        for number in range(len(parts) - 1, -1, -1):
            todo.append((parts[number], (place, number), name_bound_in(part, number)))
    return None


class Kinds:
    """Unlike kinds by their numbers."""

    def __init__(self):
        self.numbers = {}
        self.shapes = []
        self.whole = []

    def numbered(self, *shape):
        """The number of a kind, told by its word and its size or the numbers of its two parts."""
        if shape not in self.numbers:
            self.numbers[shape] = len(self.shapes)
            self.shapes.append(shape)
            if shape[0] in ("to", "both"):
                self.whole.append((shape[0], self.whole[shape[1]], self.whole[shape[2]]))
            else:
                self.whole.append(shape)
        return self.numbers[shape]

    def number_of(self, kind):
        """The number of a kind that is told as a value."""
        made = []
        todo = [(kind, False)]
        while todo:
            part, is_ended = todo.pop()
            if is_ended:
                right = made.pop()
                left = made.pop()
                made.append(self.numbered(part[0], left, right))
            elif part[0] in ("to", "both"):
                todo.append((part, True))
                todo.append((part[2], False))
                todo.append((part[1], False))
            else:
                made.append(self.numbered(*part))
        return made[0]

    def part(self, number, word, which):
        """A part of the kind of a number if it is a kind of this word, otherwise None."""
        shape = self.shapes[number]
        return shape[which] if shape[0] == word else None


class Judge:
    """The kinds of a term's names, and the numbers of the kinds that tables ask for."""

    def __init__(self, scope):
        self.kinds = Kinds()
        self.num = self.kinds.numbered("num")
        self.truth = self.kinds.numbered("few", 2)
        self.names = {name: self.kinds.number_of(kind) for name, kind in scope}


def _enter(judge, term):
    """Note the kinds of the names that a term binds."""
    if term[0] == "fn":
        judge.names[term[1]] = judge.kinds.number_of(term[2])
    elif term[0] == "row":
        judge.names[term[1]] = judge.num
    elif term[0] in OVER_ROWS:
        judge.names[term[1]] = judge.kinds.numbered("rows", term[2])
        if term[0] == "contest":
            judge.names[term[3]] = judge.num


def _kind_of_var(judge, term, parts):
    return judge.names[term[1]]


def _kind_of_digit(judge, term, parts):
    return judge.kinds.numbered("few", term[1])


def _kind_of_number(judge, term, parts):
    return judge.num


def _kind_of_prim(judge, term, parts):
    if parts != (judge.num, judge.num):
        return None
    return judge.truth if term[1] in ("below", "same") else judge.num


def _kind_of_as(judge, term, parts):
    return judge.kinds.numbered("few", term[1]) if parts[0] == judge.num else None


def _kind_of_count(judge, term, parts):
    return None if judge.kinds.part(parts[0], "few", 1) is None else judge.num


def _kind_of_if(judge, term, parts):
    return parts[1] if parts[0] == judge.truth and parts[1] == parts[2] else None


def _kind_of_fn(judge, term, parts):
    return judge.kinds.numbered("to", judge.names[term[1]], parts[0])


def _kind_of_call(judge, term, parts):
    wanted = judge.kinds.part(parts[0], "to", 1)
    return judge.kinds.part(parts[0], "to", 2) if wanted == parts[1] else None


def _kind_of_pair(judge, term, parts):
    return judge.kinds.numbered("both", parts[0], parts[1])


def _kind_of_first(judge, term, parts):
    return judge.kinds.part(parts[0], "both", 1)


def _kind_of_second(judge, term, parts):
    return judge.kinds.part(parts[0], "both", 2)


def _kind_of_repeat(judge, term, parts):
    turn = judge.kinds.numbered("to", parts[2], parts[2])
    return parts[2] if parts[0] == judge.num and parts[1] == turn else None


def _kind_of_at(judge, term, parts):
    base = judge.kinds.part(parts[0], "rows", 1)
    return None if base is None or parts[1] != judge.num else judge.kinds.numbered("few", base)


def _kind_of_row(judge, term, parts):
    return judge.kinds.numbered("rows", term[2]) if parts[0] == judge.kinds.numbered("few", term[2]) else None


def _kind_of_truth(judge, term, parts):
    return judge.truth if parts[0] == judge.truth else None


def _kind_of_bound(judge, term, parts):
    return judge.num if parts[0] == judge.num else None


def _kind_of_find(judge, term, parts):
    return judge.kinds.numbered("rows", term[2]) if parts[0] == judge.truth else None


def _kind_of_share(judge, term, parts):
    return judge.num if parts == (judge.truth, judge.num) else None


KIND_TABLE = {
    "var": _kind_of_var, "digit": _kind_of_digit, "number": _kind_of_number, "prim": _kind_of_prim,
    "as": _kind_of_as, "count": _kind_of_count, "if": _kind_of_if, "fn": _kind_of_fn, "call": _kind_of_call,
    "pair": _kind_of_pair, "first": _kind_of_first, "second": _kind_of_second, "repeat": _kind_of_repeat,
    "at": _kind_of_at, "row": _kind_of_row, "some": _kind_of_truth, "every": _kind_of_truth,
    "least": _kind_of_bound, "greatest": _kind_of_bound, "find": _kind_of_find, "share": _kind_of_share,
    "contest": _kind_of_share,
}


def _judged(term, scope):
    """(None, the kind) of a term whose forms and names are right, or (the place of a fault, None)."""
    judge = Judge(scope)
    made = []
    todo = [(term, (), False)]
    while todo:
        part, place, is_ended = todo.pop()
        parts = children(part)
        if not is_ended:
            # No name is bound twice, so what a name is noted for stays true behind its scope.
            _enter(judge, part)
            todo.append((part, place, True))
            for number in range(len(parts) - 1, -1, -1):
                todo.append((parts[number], (place, number), False))
            continue
        first = len(made) - len(parts)
        action = KIND_TABLE[part[0]]
        kind = action(judge, part, tuple(made[first:]))
        if kind is None:
            return place, None
        del made[first:]
        made.append(kind)
    return None, judge.kinds.whole[made[0]]


def _fault_and_kind(value, scope):
    """(the first fault, None), or (None, the kind of a right term)."""
    place = _form_fault(value)
    if place is not None:
        return (_path_of(place), "form"), None
    found = _name_fault(value, [name for name, _ in scope])
    if found is not None:
        place, word = found
        return (_path_of(place), word), None
    place, kind = _judged(value, scope)
    if place is not None:
        return (_path_of(place), "kind"), None
    return None, kind


def fault_of(value, scope):
    """The first fault of a value in a scope, (path, WORD), or None."""
    fault, _ = _fault_and_kind(value, scope)
    return fault


def kind_of(term, scope):
    """The kind of a right term in a scope."""
    fault, kind = _fault_and_kind(term, scope)
    if fault is not None:
        path, word = fault
        raise BadTerm(path, word)
    return kind


def parameters_of(term):
    """The names and sizes of the parameters ahead of a term, at most four, and the term behind them."""
    found = []
    while term[0] == "fn" and term[2][0] == "rows" and len(found) < MOST_PARAMETERS:
        found.append((term[1], term[2][1]))
        term = term[3]
    return found, term


def is_program(value):
    """Whether a value is a program."""
    fault, kind = _fault_and_kind(value, ())
    if fault is not None:
        return False
    found, _ = parameters_of(value)
    return is_plain(_result(kind, len(found)))


def _result(kind, many):
    """What a function of so many arguments gives."""
    for _ in range(many):
        kind = kind[2]
    return kind


def menu_of(program):
    """The sizes of the rows that a program is passed."""
    found, _ = parameters_of(program)
    return tuple([size for _, size in found])


def result_of(program):
    """The kind of what a program gives."""
    found, _ = parameters_of(program)
    return _result(kind_of(program, ()), len(found))
