"""The desk: lines of text, and an answer to each."""

from allendless.errors import AllendlessError, WrongKind
from allendless.judging import is_program, kind_of, menu_of
from allendless.leasttrees import least
from allendless.quantify import can_hold, holds, values_of
from allendless.reader import read_term
from allendless.sameness import same_programs
from allendless.ways import ways
from allendless.writer import kind_text

WHAT = "what"
DONE = "ok"


def _joined_text(first, parts_of):
    """The text of what is made of texts and of parts that are made of further ones."""
    pieces = []
    todo = [first]
    while todo:
        part = todo.pop()
        if isinstance(part, str):
            pieces.append(part)
        else:
            todo.extend(parts_of(part)[::-1])
    return "".join(pieces)


def _parts_of_value(value):
    if isinstance(value, tuple):
        return ["(", value[0], " ", value[1], ")"]
    return [str(value)]


def _value_text(value):
    return _joined_text(value, _parts_of_value)


def _parts_of_tree(tree):
    if tree[0] == "end":
        return [_value_text(tree[1])]
    i, k = tree[1]
    parts = [f"[{i} {k}:"]
    for branch in tree[2]:
        parts.append(" ")
        parts.append(branch)
    return [*parts, "]"]


def _closed(session, text):
    """The closed form of the term of a text."""
    return session.closed(read_term(text))


def _program(session, text):
    """The program of a text."""
    term = _closed(session, text)
    if not is_program(term):
        raise WrongKind()
    return term


def _yes_or_no(is_so):
    return "yes" if is_so else "no"


def _define(session, rest):
    name, blank, text = rest.partition(" ")
    if not blank:
        return WHAT
    session.define(name, read_term(text))
    return DONE


def _drop(session, rest):
    session.drop()
    return DONE


def _undo(session, rest):
    session.undo()
    return DONE


def _redo(session, rest):
    session.redo()
    return DONE


def _kind(session, rest):
    return kind_text(kind_of(_closed(session, rest), ()))


def _holds(session, rest):
    return _yes_or_no(holds(_program(session, rest)))


def _can_hold(session, rest):
    return _yes_or_no(can_hold(_program(session, rest)))


def _values(session, rest):
    return "".join([_value_text(value) + " " for value in values_of(_program(session, rest))])


def _tree(session, rest):
    program = _program(session, rest)
    return _joined_text(least(menu_of(program), ways(program)), _parts_of_tree)


def _same(session, rest):
    text, sign, other = rest.partition(";")
    if not sign:
        return WHAT
    program = _program(session, text)
    return _yes_or_no(same_programs(program, _program(session, other)))


ALONE = ("drop", "undo", "redo")
ANSWERS = {
    "define": _define, "drop": _drop, "undo": _undo, "redo": _redo, "kind": _kind, "holds": _holds,
    "canhold": _can_hold, "values": _values, "tree": _tree, "same": _same,
}


class Desk:
    """Answers lines with a session."""

    def __init__(self, session):
        self.session = session

    def answer(self, line):
        """The answer to a line."""
        word, blank, rest = line.partition(" ")
        if word not in ANSWERS:
            return WHAT
        if (word in ALONE and rest) or (word not in ALONE and not blank):
            return WHAT
        action = ANSWERS[word]
        try:
            return action(self.session, rest)
        except AllendlessError as error:
            return f"error {error.short_name()}"
