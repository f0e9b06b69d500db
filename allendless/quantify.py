"""What programs give on all rows: the values that occur, the least rows for each, and binding parameters."""

from allendless.data import data_text, flat, is_between
from allendless.errors import OutOfRange, WrongKind
from allendless.judging import parameters_of, result_of
from allendless.kinds import plainly_named
from allendless.trees import ends_of
from allendless.ways import ways

TRUTH = ("few", 2)

# The kind of result that each word can be put ahead of.
WANTED = {"some": ("few", 2), "every": ("few", 2), "least": ("num",), "greatest": ("num",)}


def other_than_0(known):
    """The known entries that are not 0."""
    return tuple([entry for entry in known if entry[1] > 0])


def row_order(known):
    """What the rows that known entries other than 0 tell are ordered by: the later they leave 0 the less they are."""
    return [((-place[0], -place[1]), digit) for place, digit in known]


def value_rows(program):
    """The pairs (value, least rows on which it occurs), values ascending."""
    found = {}
    for known, value in ends_of(ways(program)):
        text = data_text(value)
        entries = other_than_0(known)
        if text not in found or row_order(entries) < row_order(found[text][1]):
            found[text] = (value, entries)
    return tuple(sorted([found[text] for text in found], key=_value_order))


def _value_order(pair):
    return flat(pair[0])


def values_of(program):
    """The values that occur, ascending."""
    return tuple([value for value, _ in value_rows(program)])


def least_rows(program, value):
    """The entries other than 0 of the least rows on which a value occurs; None if it does not."""
    wanted = data_text(value)
    for held, entries in value_rows(program):
        if data_text(held) == wanted:
            return entries
    return None


def check_truth(program):
    """Refuse a program whose result is not of the kind few 2."""
    if result_of(program) != TRUTH:
        raise WrongKind()


def can_hold(program):
    """Whether a program gives 1 on some rows."""
    check_truth(program)
    return 1 in values_of(program)


def holds(program):
    """Whether a program gives 1 on all rows."""
    check_truth(program)
    return values_of(program) == (1,)


def bound(program, number, word):
    """The program with a parameter bound by a quantifier, plainly named."""
    found, body = parameters_of(program)
    if not is_between(number, 0, len(found) - 1):
        raise OutOfRange(number)
    if result_of(program) != WANTED[word]:
        raise WrongKind()
    name, size = found[number]
    made = (word, name, size, body)
    # No name is bound twice in a program, so the rows behind this one cannot hide it.
    for other, base in (found[:number] + found[number + 1:])[::-1]:
        made = ("fn", other, ("rows", base), made)
    return plainly_named(made)
