"""Searchable kinds: what is of them is told by rows of digits, so all rows stand for all that is of a kind."""

from math import isqrt

from allendless.data import TOP, is_between
from allendless.errors import NotSearchable
from allendless.judging import kind_of
from allendless.kinds import free_names, is_kind, is_plain, plainly_named, put_in
from allendless.ways import ways

MOST_DEPTH = 6
GREATEST_WIDTH = 9

# join is told for sums of its two numbers that are below this one.
JOIN_BOUND = 10 ** 9
LAST_SUM = 10 ** 9 - 1
LAST_CORNER = (10 ** 9 - 1) * 10 ** 9 // 2

# Roots are found bit by bit: so many bits are enough below a bound. Small indices are asked most.
FEW_BITS = 3
FEW_BOUND = 36
SOME_BITS = 6
SOME_BOUND = 2080
ALL_BITS = 30


def is_searchable(kind):
    """Whether a kind can be searched."""
    if not is_kind(kind):
        return False
    todo = [(kind, 1)]
    while todo:
        part, depth = todo.pop()
        if depth > MOST_DEPTH or part[0] == "num" or (part[0] == "to" and part[1] != ("num",)):
            return False
        if part[0] == "both":
            todo.append((part[1], depth + 1))
        if part[0] in ("both", "to"):
            todo.append((part[2], depth + 1))
    return True


def _check_searchable(kind):
    if not is_searchable(kind):
        raise NotSearchable(kind)


def _sizes_in(kind):
    """The sizes that stand in a kind, numbers left out."""
    sizes = []
    todo = [kind]
    while todo:
        part = todo.pop()
        if part[0] in ("few", "rows"):
            sizes.append(part[1])
        elif part[0] in ("both", "to"):
            todo.extend(part[1:])
    return sizes


def _even_width(kind):
    """The least width that each size divides, or None."""
    sizes = _sizes_in(kind)
    for width in range(2, GREATEST_WIDTH + 1):
        if all([width % size == 0 for size in sizes]):
            return width
    return None


def width_of(kind):
    """The number of digits of the rows that are codes."""
    width = _even_width(kind)
    return max([2, *_sizes_in(kind)]) if width is None else width


def is_even(kind):
    """Whether the width is a multiple of each size in a kind."""
    return _even_width(kind) is not None


def elements_count(kind):
    """How many there are of a kind that is built of few and both alone; None for another kind."""
    many = 1
    todo = [kind]
    while todo:
        part = todo.pop()
        if part[0] == "both":
            todo.extend(part[1:])
        elif part[0] == "few":
            many = many * part[1]
        else:
            return None
    return many


def is_address(kind, value):
    """Whether a value is an address of a searchable kind."""
    if not isinstance(value, tuple):
        return False
    for at, number in enumerate(value):
        highest = 1 if kind[0] == "both" else TOP
        if kind[0] == "few" or not is_between(number, 0, highest):
            return False
        if kind[0] == "rows":
            return at == len(value) - 1
        kind = kind[1 + number] if kind[0] == "both" else kind[2]
    return kind[0] == "few"


def _joined_index(a, b):
    if a + b >= JOIN_BOUND:
        return TOP
    return (a + b) * (a + b + 1) // 2 + b


def address_index(kind, address):
    """The index of an address; TOP if it is far."""
    around = []
    for number in address:
        around.append((kind[0], number))
        if kind[0] == "both":
            kind = kind[1 + number]
        elif kind[0] == "to":
            kind = kind[2]
    index = 0
    for word, number in reversed(around):
        if word == "rows":
            index = number
        elif word == "both":
            index = min(2 * index + number, TOP)
        else:
            index = _joined_index(number, index)
    return index


def index_address(kind, index):
    """The address with an index; None if there is none, or if it would be far."""
    if not 0 <= index < TOP:
        return None
    address = ()
    while kind[0] in ("both", "to"):
        if kind[0] == "both":
            number = index % 2
            kind = kind[1 + number]
            index = index // 2
        else:
            total = (isqrt(8 * index + 1) - 1) // 2
            if total >= JOIN_BOUND:
                return None
            index = index - total * (total + 1) // 2
            number = total - index
            kind = kind[2]
        address = address + (number,)
    if kind[0] == "rows":
        return address + (index,)
    return address if index == 0 else None


class Names:
    """Names that are all unlike."""

    def __init__(self):
        self.many = 0

    def fresh(self):
        """A name that has not been told yet."""
        self.many += 1
        return f"n{self.many}"


def _prim(word, left, right):
    return ("prim", word, (left, right))


def _corner(number):
    """The term of the number of all pairs with a lesser sum."""
    return _prim("over", _prim("times", number, _prim("add", number, ("number", 1))), ("number", 2))


def _sum_of_parts(names, outer, inner):
    """The term of join of two terms, each of which is worked out once."""
    total = names.fresh()
    here = ("var", total)
    # The second number is what is left of the sum without the first one.
    told = _prim("add", _corner(here), _prim("less", here, outer))
    chosen = ("if", _prim("below", here, ("number", JOIN_BOUND)), told, ("number", TOP))
    return ("call", ("fn", total, ("num",), chosen), _prim("add", outer, inner))


def _index_term(names, around, inner):
    """The term of the index of an answer, from that within the innermost kind and the steps on the way there."""
    made = inner
    for word, told in reversed(around):
        if word == "to":
            made = _sum_of_parts(names, told, made)
        elif made[0] == "number":
            made = ("number", 2 * made[1] + told)
        else:
            made = _prim("times", ("number", 2), made)
            if told == 1:
                made = _prim("add", made, ("number", 1))
    return made


def _decoded(names, kind, row, around):
    """The term of what a row tells of a kind; the steps on the way to it are around."""
    if kind[0] == "few":
        return ("as", kind[1], ("count", ("at", row, _index_term(names, around, ("number", 0)))))
    if kind[0] == "both":
        left = _decoded(names, kind[1], row, around + (("both", 0),))
        return ("pair", left, _decoded(names, kind[2], row, around + (("both", 1),)))
    name = names.fresh()
    here = ("var", name)
    if kind[0] == "rows":
        return ("row", name, kind[1], ("as", kind[1], ("count", ("at", row, _index_term(names, around, here)))))
    return ("fn", name, ("num",), _decoded(names, kind[2], row, around + (("to", here),)))


def decoder(kind):
    """A term that gives for a row the one of a searchable kind that it tells."""
    _check_searchable(kind)
    names = Names()
    name = names.fresh()
    return plainly_named(("fn", name, ("rows", width_of(kind)), _decoded(names, kind, ("var", name), ())))


def _by_size(index, few, some, most):
    """The term of a number that is chosen by how great an index is."""
    rest = ("if", _prim("below", index, ("number", SOME_BOUND)), ("number", some), ("number", most))
    return ("if", _prim("below", index, ("number", FEW_BOUND)), ("number", few), rest)


def _sum_at(names, index):
    """The term of the greatest sum whose corner is not above an index, below the bound of join."""
    held = names.fresh()
    tried = names.fresh()
    state = ("var", held)
    here = ("var", tried)
    kept = ("if", _prim("below", index, _corner(here)), ("first", state), here)
    turned = ("pair", kept, _prim("over", ("second", state), ("number", 2)))
    numbers = ("both", ("num",), ("num",))
    trial = _prim("add", ("first", state), ("second", state))
    turn = ("fn", held, numbers, ("call", ("fn", tried, ("num",), turned), trial))
    first_bit = _by_size(index, 1 << FEW_BITS - 1, 1 << SOME_BITS - 1, 1 << ALL_BITS - 1)
    bits = _by_size(index, FEW_BITS, SOME_BITS, ALL_BITS)
    told = ("first", ("repeat", bits, turn, ("pair", ("number", 0), first_bit)))
    # From the last corner on products could be above TOP.
    return ("if", _prim("below", index, ("number", LAST_CORNER)), told, ("number", LAST_SUM))


def _coded(names, kind, told, index, width):
    """The term of the digit at an index of the code of what a term tells; 0 where there is no address."""
    nought = ("digit", width, 0)
    if kind[0] == "few":
        return ("if", _prim("same", index, ("number", 0)), ("as", width, ("count", told)), nought)
    if kind[0] == "rows":
        return ("as", width, ("count", ("at", told, index)))
    if kind[0] == "both":
        half = names.fresh()
        left = _coded(names, kind[1], ("first", told), ("var", half), width)
        right = _coded(names, kind[2], ("second", told), ("var", half), width)
        is_first = _prim("same", _prim("rest", index, ("number", 2)), ("number", 0))
        return ("call", ("fn", half, ("num",), ("if", is_first, left, right)), _prim("over", index, ("number", 2)))
    total = names.fresh()
    second = names.fresh()
    here = ("var", total)
    inner = ("var", second)
    made = _coded(names, kind[2], ("call", told, _prim("less", here, inner)), inner, width)
    behind = ("fn", second, ("num",), ("if", _prim("below", here, inner), nought, made))
    parted = ("call", behind, _prim("less", index, _corner(here)))
    return ("call", ("fn", total, ("num",), parted), _sum_at(names, index))


def coder(kind):
    """A term that gives for what is of a searchable kind its code."""
    _check_searchable(kind)
    width = width_of(kind)
    names = Names()
    told = names.fresh()
    index = names.fresh()
    made = _coded(names, kind, ("var", told), ("var", index), width)
    chosen = ("if", _prim("below", ("var", index), ("number", TOP)), made, ("digit", width, 0))
    return plainly_named(("fn", told, kind, ("row", index, width, chosen)))


def _with_row(kind, name, term):
    """(a name, the term with what the row of this name tells in the place of another name)."""
    row = "r"
    taken = free_names(term)
    while row in taken:
        row = row + "r"
    return row, put_in(term, name, ("call", decoder(kind), ("var", row)))


def over(word, kind, name, term):
    """The quantifier of a word over all of a searchable kind, as one over all rows."""
    row, made = _with_row(kind, name, term)
    return plainly_named((word, row, width_of(kind), made))


def found(kind, name, term):
    """A term for one of a searchable kind at which a term gives 1, if there is one."""
    row, made = _with_row(kind, name, term)
    return plainly_named(("call", decoder(kind), ("find", row, width_of(kind), made)))


def is_near(kind, name, term):
    """Whether a term of a plain kind has no other free names and never asks for an answer that is far."""
    row, made = _with_row(kind, name, term)
    if [other for other in free_names(term) if other != name] or not is_plain(kind_of(term, ((name, kind),))):
        return False
    todo = [ways(("fn", row, ("rows", width_of(kind)), made))]
    while todo:
        tree = todo.pop()
        if tree[0] == "ask":
            if tree[1] == (TOP, 0):
                return False
            todo.extend(tree[2])
    return True
