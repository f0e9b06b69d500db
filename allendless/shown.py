"""Questions about all rows, their answers, and certificates that show the answers to be right."""

from allendless.data import TOP, data_text, is_between
from allendless.errors import BadNumber, WrongKind
from allendless.judging import menu_of, result_of
from allendless.moduli import hangs_on
from allendless.needed import Functions
from allendless.quantify import check_truth
from allendless.ratios import ratio
from allendless.sameness import same, unlike_entries
from allendless.shares import shares_of
from allendless.told import is_known, is_place, known_of
from allendless.trees import ends_of, fixed_at
from allendless.ways import ways


def _is_node(menu, value):
    """Whether an end, with any data, or an ask begins here, whatever the branches are."""
    if not isinstance(value, tuple) or not value or not isinstance(value[0], str):
        return False
    if value[0] == "end":
        return len(value) == 2
    if value[0] != "ask" or len(value) != 3 or not is_place(menu, value[1]):
        return False
    return isinstance(value[2], tuple) and len(value[2]) == menu[value[1][1]]


def _is_tree(menu, value):
    """Whether a value is a tree for a menu, its ends being any data, with no place twice on a way."""
    above = {}
    todo = [("node", value)]
    while todo:
        word, part = todo.pop()
        if word == "leave":
            del above[part]
            continue
        if not _is_node(menu, part):
            return False
        if part[0] == "ask":
            if part[1] in above:
                return False
            above[part[1]] = True
            todo.append(("leave", part[1]))
            todo.extend([("node", branch) for branch in part[2]])
    return True


def is_right_tree(program, value):
    """Whether a value is a right tree for a program: on all rows it has the value that the program gives."""
    menu = menu_of(program)
    return _is_tree(menu, value) and same(menu, ways(program), value)


def _always_gives(program, known, value):
    """Whether a program gives a value on all rows that go along with known entries."""
    tree = ways(program)
    digits = {place: digit for place, digit in known}
    wanted = data_text(value)
    todo = [tree]
    while todo:
        part = todo.pop()
        if part[0] == "end":
            if data_text(part[1]) != wanted:
                return False
        elif part[1] in digits:
            todo.append(part[2][digits[part[1]]])
        else:
            todo.extend(part[2])
    return True


def _shows(program, known, value):
    """Whether some data is known entries on which a program always gives a value."""
    return is_known(menu_of(program), known) and _always_gives(program, known, value)


def _known_with(tree, value):
    """The known entries of an end with a value, or None."""
    wanted = data_text(value)
    for known, held in ends_of(tree):
        if data_text(held) == wanted:
            return known
    return None


def _is_value(kind, value):
    """Whether some data is a value of a plain kind."""
    todo = [(kind, value)]
    while todo:
        part, held = todo.pop()
        if part[0] == "both":
            if not isinstance(held, tuple) or len(held) != 2:
                return False
            todo.extend([(part[1], held[0]), (part[2], held[1])])
        elif not is_between(held, 0, TOP if part[0] == "num" else part[1] - 1):
            return False
    return True


# For each question: what is wrong with it, its answer with a certificate, and whether a certificate shows it.

def _check_truth_of(question):
    check_truth(question[1])


def _answer_holds(question):
    tree = ways(question[1])
    known = _known_with(tree, 0)
    return (True, tree) if known is None else (False, known)


def _shows_holds(question, answer, certificate):
    if answer:
        return is_right_tree(question[1], certificate)
    return _shows(question[1], certificate, 0)


def _answer_can_hold(question):
    tree = ways(question[1])
    known = _known_with(tree, 1)
    return (False, tree) if known is None else (True, known)


def _shows_can_hold(question, answer, certificate):
    if answer:
        return _shows(question[1], certificate, 1)
    return is_right_tree(question[1], certificate)


def _check_same(question):
    _, one, other = question
    if menu_of(one) != menu_of(other) or data_text(result_of(one)) != data_text(result_of(other)):
        raise WrongKind()


def _answer_same(question):
    tree = ways(question[1])
    functions = Functions()
    one = functions.number_of(tree)
    other = functions.number_of(ways(question[2]))
    if one == other:
        return (True, tree)
    entries, value, worth = unlike_entries(functions, one, other)
    return (False, (known_of(entries), value, worth))


def _shows_same(question, answer, certificate):
    _, one, other = question
    if answer:
        return is_right_tree(one, certificate) and is_right_tree(other, certificate)
    if not isinstance(certificate, tuple) or len(certificate) != 3:
        return False
    known, value, worth = certificate
    if data_text(value) == data_text(worth):
        return False
    return _shows(one, known, value) and _shows(other, known, worth)


def _check_occurs(question):
    if not _is_value(result_of(question[1]), question[2]):
        raise WrongKind()


def _answer_occurs(question):
    tree = ways(question[1])
    known = _known_with(tree, question[2])
    return (False, tree) if known is None else (True, known)


def _shows_occurs(question, answer, certificate):
    if answer:
        return _shows(question[1], certificate, question[2])
    return is_right_tree(question[1], certificate)


def _check_hangs(question):
    if not is_place(menu_of(question[1]), question[2]):
        raise WrongKind()


def _answer_hangs(question):
    _, program, place = question
    tree = ways(program)
    found = hangs_on(menu_of(program), tree, place)
    return (False, fixed_at(tree, place, 0)) if found is None else (True, found)


def _asks(tree, place):
    todo = [tree]
    while todo:
        part = todo.pop()
        if part[0] == "ask":
            if part[1] == place:
                return True
            todo.extend(part[2])
    return False


def _with_digit(known, place, digit):
    """The known entries with a digit at one more place."""
    digits = {other: held for other, held in known}
    digits[place] = digit
    return known_of(digits)


def _shows_hangs(question, answer, certificate):
    _, program, place = question
    if not answer:
        return is_right_tree(program, certificate) and not _asks(certificate, place)
    if not isinstance(certificate, tuple) or len(certificate) != 5:
        return False
    known, first, second, value, worth = certificate
    menu = menu_of(program)
    if not is_known(menu, known) or place in [other for other, _ in known]:
        return False
    if not all([is_between(digit, 0, menu[place[1]] - 1) for digit in (first, second)]):
        return False
    if data_text(value) == data_text(worth):
        return False
    if not _always_gives(program, _with_digit(known, place, first), value):
        return False
    return _always_gives(program, _with_digit(known, place, second), worth)


def _check_share(question):
    _, program, _, under = question
    check_truth(program)
    if under < 1:
        raise BadNumber(under)


def _answer_share(question):
    _, program, over, under = question
    tree = ways(program)
    shares = {value: share for value, share in shares_of(menu_of(program), tree)}
    return (shares.get(1, (0, 1)) == ratio(over, under), tree)


def _shows_share(question, answer, certificate):
    return is_right_tree(question[1], certificate)


CHECKS = {
    "holds": _check_truth_of, "can hold": _check_truth_of, "same": _check_same, "occurs": _check_occurs,
    "hangs": _check_hangs, "share": _check_share,
}
ANSWERS = {
    "holds": _answer_holds, "can hold": _answer_can_hold, "same": _answer_same, "occurs": _answer_occurs,
    "hangs": _answer_hangs, "share": _answer_share,
}
SHOWN = {
    "holds": _shows_holds, "can hold": _shows_can_hold, "same": _shows_same, "occurs": _shows_occurs,
    "hangs": _shows_hangs, "share": _shows_share,
}


def certified(question):
    """The answer to a question, and a certificate for it."""
    check = CHECKS[question[0]]
    check(question)
    action = ANSWERS[question[0]]
    return action(question)


def answer_to(question):
    """The answer to a question."""
    answer, _ = certified(question)
    return answer


def is_certified(question, answer, certificate):
    """Whether an answer is right and a certificate is one for it."""
    right = answer_to(question)
    if not isinstance(answer, bool) or answer != right:
        return False
    action = SHOWN[question[0]]
    return action(question, answer, certificate)
