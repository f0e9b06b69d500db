"""Kinds, names and terms: what they are, the parts of terms, and putting one term into another.

Terms may be very deep; so nothing here calls itself, and terms are gone through as lists of rows.
"""

from allendless.data import data_text, is_between
from allendless.errors import NotThere

WORDS = (
    "fn", "row", "some", "every", "least", "greatest", "find", "share", "contest", "if", "then", "else",
    "first", "second", "as", "count", "repeat", "num", "few", "rows", "of", "by", "times",
)
LETTERS = "abcdefghijklmnopqrstuvwxyz"
NAME_SIGNS = "abcdefghijklmnopqrstuvwxyz0123456789_"
LONGEST_NAME = 20
BINDERS = ("fn", "row", "some", "every", "least", "greatest", "find", "share", "contest")
OPERATIONS = ("add", "less", "times", "over", "rest", "below", "same")

# Where in its tuple the first child of a term stands; those of a prim stand in a tuple of their own.
FIRST_CHILD = {
    "var": 2, "digit": 3, "number": 2, "as": 2, "count": 1, "if": 1, "fn": 3, "call": 1, "pair": 1,
    "first": 1, "second": 1, "repeat": 1, "at": 1, "row": 3, "some": 3, "every": 3, "least": 3,
    "greatest": 3, "find": 3, "share": 3, "contest": 4,
}


def _begins_kind(value):
    """Whether a kind begins here, whatever stands inside of it."""
    if not isinstance(value, tuple) or not value or not isinstance(value[0], str):
        return False
    word = value[0]
    if word == "num":
        return len(value) == 1
    if word == "few":
        return len(value) == 2 and is_between(value[1], 1, 9)
    if word == "rows":
        return len(value) == 2 and is_between(value[1], 2, 9)
    return word in ("to", "both") and len(value) == 3


def is_kind(value):
    """Whether a value is a kind."""
    todo = [value]
    while todo:
        kind = todo.pop()
        if not _begins_kind(kind):
            return False
        if kind[0] in ("to", "both"):
            todo.extend(kind[1:])
    return True


def is_plain(kind):
    """Whether a kind has numbers, digits and pairs of such alone."""
    todo = [kind]
    while todo:
        part = todo.pop()
        if part[0] in ("to", "rows"):
            return False
        if part[0] == "both":
            todo.extend(part[1:])
    return True


def is_name(value):
    """Whether a value is a name."""
    if not isinstance(value, str) or not 1 <= len(value) <= LONGEST_NAME:
        return False
    if value[0] not in LETTERS or value in WORDS:
        return False
    return all([sign in NAME_SIGNS for sign in value])


def children(term):
    """The terms that stand in a term itself."""
    if term[0] == "prim":
        return term[2]
    return term[FIRST_CHILD[term[0]]:]


def with_children(term, parts):
    """A term with other children."""
    if term[0] == "prim":
        return ("prim", term[1], parts)
    return term[:FIRST_CHILD[term[0]]] + parts


def _way_down(term, path):
    """The pairs (term, number of a child) along a path, and the term at its end."""
    around = []
    for number in path:
        parts = children(term)
        if not is_between(number, 0, len(parts) - 1):
            raise NotThere(path)
        around.append((term, number))
        term = parts[number]
    return around, term


def term_at(term, path):
    """The term at a path."""
    _, found = _way_down(term, path)
    return found


def put_at(term, path, other):
    """The term with another one at a path."""
    around, _ = _way_down(term, path)
    made = other
    for outer, number in reversed(around):
        parts = list(children(outer))
        parts[number] = made
        made = with_children(outer, tuple(parts))
    return made


def written(term):
    """All terms in a term in writing order, as rows (TERM, PARENT, NUMBER).

    PARENT is the row of the term around it, -1 for the term itself; NUMBER tells which child it is.
    """
    rows = []
    todo = [(term, -1, 0)]
    while todo:
        part, parent, number = todo.pop()
        here = len(rows)
        rows.append((part, parent, number))
        parts = children(part)
        for at in range(len(parts) - 1, -1, -1):
            todo.append((parts[at], here, at))
    return rows


def paths_of(term):
    """All paths in a term, in writing order."""
    paths = []
    for _, parent, number in written(term):
        paths.append(paths[parent] + (number,) if parent >= 0 else ())
    return tuple(paths)


def names_bound(term):
    """The names that this one term binds, in the order in which they count as bound."""
    if term[0] not in BINDERS:
        return ()
    if term[0] == "contest":
        return (term[3], term[1])
    return (term[1],)


def name_bound_in(term, number):
    """The name that this one term binds in its child of a number, or None."""
    if term[0] not in BINDERS:
        return None
    if term[0] == "contest":
        return term[3] if number == 0 else term[1]
    return term[1] if number == 0 else None


def resolved(term):
    """The rows of `written`, each with the row of the term that binds its var.

    That is None for a var that stands free, and for a term that is no var.
    """
    bound = {}
    around = []
    rows = []
    for part, parent, number in written(term):
        while around and around[-1][0] != parent:
            _, left = around.pop()
            if left is not None:
                bound[left].pop()
        name = None
        if parent >= 0:
            name = name_bound_in(rows[parent][0], number)
        if name is not None:
            bound.setdefault(name, []).append(parent)
        around.append((len(rows), name))
        binder = None
        if part[0] == "var" and bound.get(part[1]):
            binder = bound[part[1]][-1]
        rows.append((part, parent, number, binder))
    return rows


def _free_in(rows):
    """The names that stand free in resolved rows, as the keys of a dict."""
    names = {}
    for part, _, _, binder in rows:
        if part[0] == "var" and binder is None:
            names[part[1]] = True
    return names


def free_names(term):
    """The names that stand free in a term, in the order of their first vars."""
    return tuple(list(_free_in(resolved(term))))


def bound_names(term):
    """The names that a term binds, in writing order, each once."""
    names = {}
    for part, _, _ in written(term):
        for name in names_bound(part):
            names[name] = True
    return tuple(list(names))


def _fresh_names(rows):
    """The plain names: a dict from (row of the term that binds, name) to the new name."""
    free = _free_in(rows)
    fresh = {}
    count = 0
    for at, row in enumerate(rows):
        for name in names_bound(row[0]):
            while f"v{count}" in free:
                count += 1
            fresh[(at, name)] = f"v{count}"
            count += 1
    return fresh


def _renamed(row, at, fresh):
    """The term of a row with new names; its children stay as they are."""
    part, _, _, binder = row
    if part[0] == "var":
        return part if binder is None else ("var", fresh[(binder, part[1])])
    if part[0] not in BINDERS:
        return part
    if part[0] == "contest":
        return ("contest", fresh[(at, part[1])], part[2], fresh[(at, part[3])], *part[4:])
    return (part[0], fresh[(at, part[1])], *part[2:])


def _named(rows):
    """The term of resolved rows, plainly named."""
    fresh = _fresh_names(rows)
    parts = [[] for _ in rows]
    made = None
    for at in range(len(rows) - 1, -1, -1):
        # Children come behind their parent, so they are ended already, the last one first.
        parts[at].reverse()
        made = with_children(_renamed(rows[at], at, fresh), tuple(parts[at]))
        parent = rows[at][1]
        if parent >= 0:
            parts[parent].append(made)
    return made


def plainly_named(term):
    """The plainly named form of a right term."""
    return _named(resolved(term))


def same_term(term, other):
    """Whether two right terms are the same up to names."""
    return data_text(plainly_named(term)) == data_text(plainly_named(other))


def put_in(term, name, other):
    """The term with another one for each var of the name that stands free in it, plainly named."""
    inner = resolved(other)
    rows = []
    moved = []
    for part, parent, number, binder in resolved(term):
        here = len(rows)
        moved.append(here)
        above = moved[parent] if parent >= 0 else -1
        if part[0] == "var" and part[1] == name and binder is None:
            for row in inner:
                rows.append(_moved(row, here, above, number))
        else:
            rows.append((part, above, number, None if binder is None else moved[binder]))
    return _named(rows)


def _moved(row, here, above, number):
    """A row of a term that is put in, its rows beginning here, below the row above."""
    part, parent, own, binder = row
    bound = None if binder is None else binder + here
    if parent < 0:
        return (part, above, number, bound)
    return (part, parent + here, own, bound)
