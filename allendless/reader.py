"""Reading: the term or the kind of a text.

Steps that are still to do and parts that are made stand in two lists; so texts may go as deep as they like.
"""

from allendless.errors import BadText, TooGreat
from allendless.kinds import OPERATIONS, is_name, written
from allendless.lexer import scanned

MOST_OPEN = 40
MOST_NODES = 200
MOST_DEEP = 40
DEEPEST_KIND = 40

# What stands behind the first word of a form. A step in capitals makes one part, others are tokens.
FORMS = {
    "fn": ("NAME", ":", "KIND", ".", "TERM"),
    "row": ("NAME", "of", "BASE", ".", "TERM"),
    "some": ("NAME", "of", "BASE", ".", "TERM"),
    "every": ("NAME", "of", "BASE", ".", "TERM"),
    "least": ("NAME", "of", "BASE", ".", "TERM"),
    "greatest": ("NAME", "of", "BASE", ".", "TERM"),
    "find": ("NAME", "of", "BASE", ".", "TERM"),
    "share": ("NAME", "of", "BASE", "times", "(", "TERM", ")", ".", "TERM"),
    "contest": ("NAME", "of", "BASE", "by", "NAME", "(", "TERM", ")", ".", "TERM"),
    "if": ("TERM", "then", "TERM", "else", "TERM"),
}
CLOSED_FORMS = {
    "first": ("(", "TERM", ")"),
    "second": ("(", "TERM", ")"),
    "count": ("(", "TERM", ")"),
    "as": ("SIZE", "(", "TERM", ")"),
    "repeat": ("(", "TERM", ",", "TERM", ",", "TERM", ")"),
}
ATOMS = {
    "num": (),
    "few": ("SIZE",),
    "rows": ("BASE",),
}
LEVELS = {
    "TEST": ("SUM", "TEST_REST"),
    "SUM": ("PRODUCT", "SUM_REST"),
    "PRODUCT": ("POST", "PRODUCT_REST"),
    "POST": ("PLAIN", "POST_REST"),
    "KIND": ("SIDE", "KIND_REST"),
    "SIDE": ("ATOM", "SIDE_REST"),
}
# The signs between two parts: the rest in which a sign stands, what is read behind it, what both make,
# and whether the same rest goes on behind that.
JOINTS = {
    "<": ("TEST_REST", ("SUM",), "below", False),
    "=": ("TEST_REST", ("SUM",), "same", False),
    "+": ("SUM_REST", ("PRODUCT",), "add", True),
    "-": ("SUM_REST", ("PRODUCT",), "less", True),
    "*": ("PRODUCT_REST", ("POST",), "times", True),
    "/": ("PRODUCT_REST", ("POST",), "over", True),
    "|": ("PRODUCT_REST", ("POST",), "rest", True),
    "(": ("POST_REST", ("TERM", ")"), "call", True),
    "[": ("POST_REST", ("TERM", "]"), "at", True),
    "->": ("KIND_REST", ("KIND",), "to", False),
    "&": ("SIDE_REST", ("ATOM",), "both", True),
}
RESTS = ("TEST_REST", "SUM_REST", "PRODUCT_REST", "POST_REST", "KIND_REST", "SIDE_REST")


class Reading:
    """A text that is being read: its tokens, the next one, the steps to do and the parts made."""

    def __init__(self, tokens, first):
        self.tokens = tokens
        self.at = 0
        self.todo = [first]
        self.made = []

    def token(self):
        """The next token."""
        return self.tokens[self.at][1]

    def fail(self):
        """Refuse the text at the next token."""
        raise BadText(self.tokens[self.at][2])

    def plan(self, parts):
        """Do these steps next, the first one first."""
        self.todo.extend(parts[::-1])


def _begin_form(reading, parts):
    """Pass the word of a form; read its parts and make it of them."""
    word = reading.token()
    reading.at += 1
    many = len([part for part in parts if part.isupper()])
    reading.todo.append((word, many))
    reading.plan(parts)


def _read_term_step(reading):
    word = reading.token()
    if word in FORMS:
        _begin_form(reading, FORMS[word])
    else:
        reading.todo.append("TEST")


def _read_plain(reading):
    sort, token, _ = reading.tokens[reading.at]
    if sort == "number":
        _read_number(reading)
    elif token == "(":
        reading.at += 1
        reading.plan(("TERM", "INNER"))
    elif token in CLOSED_FORMS:
        _begin_form(reading, CLOSED_FORMS[token])
    elif is_name(token):
        reading.at += 1
        reading.made.append(("var", token))
    else:
        reading.fail()


def _read_number(reading):
    """A number, or a digit: a number below 9 that is followed by a colon and a greater one up to 9."""
    number = reading.token()
    reading.at += 1
    if reading.token() != ":" or number > 8:
        reading.made.append(("number", number))
        return
    reading.at += 1
    reading.made.append(("digit", _number_from(reading, number + 1), number))


def _read_inner(reading):
    """What stands behind the first term in brackets: their end, or the second term of a pair."""
    if reading.token() == ",":
        reading.at += 1
        reading.todo.append(("pair", 2))
        reading.plan(("TERM", ")"))
    else:
        _expect(reading, ")")


def _read_atom(reading):
    token = reading.token()
    if token in ATOMS:
        _begin_form(reading, ATOMS[token])
    elif token == "(":
        reading.at += 1
        reading.plan(("KIND", ")"))
    else:
        reading.fail()


def _read_name(reading):
    if not is_name(reading.token()):
        reading.fail()
    reading.made.append(reading.token())
    reading.at += 1


def _number_from(reading, low):
    """Pass a number from low to 9."""
    sort, token, _ = reading.tokens[reading.at]
    if sort != "number" or not low <= token <= 9:
        reading.fail()
    reading.at += 1
    return token


def _read_size(reading):
    reading.made.append(_number_from(reading, 1))


def _read_base(reading):
    reading.made.append(_number_from(reading, 2))


def _expect(reading, token):
    """Pass this very token."""
    if reading.token() != token:
        reading.fail()
    reading.at += 1


def _read_rest(reading, rest):
    """Go on with a sign that can stand in this rest, if it comes."""
    sign = reading.token()
    if sign in JOINTS and JOINTS[sign][0] == rest:
        _, parts, word, again = JOINTS[sign]
        reading.at += 1
        if again:
            reading.todo.append(rest)
        reading.todo.append((word, 2))
        reading.plan(parts)


def _make(reading, word, many):
    """Make a form of the parts that were made last."""
    first = len(reading.made) - many
    parts = tuple(reading.made[first:])
    del reading.made[first:]
    if word in OPERATIONS:
        reading.made.append(("prim", word, parts))
    elif word == "share":
        name, base, times, body = parts
        reading.made.append(("share", name, base, body, times))
    else:
        reading.made.append((word, *parts))


READERS = {
    "TERM": _read_term_step,
    "PLAIN": _read_plain,
    "INNER": _read_inner,
    "ATOM": _read_atom,
    "NAME": _read_name,
    "SIZE": _read_size,
    "BASE": _read_base,
}


def _do(reading, step):
    """One step of reading."""
    if isinstance(step, tuple):
        word, many = step
        _make(reading, word, many)
    elif step in LEVELS:
        reading.plan(LEVELS[step])
    elif step in RESTS:
        _read_rest(reading, step)
    elif step in READERS:
        action = READERS[step]
        action(reading)
    else:
        _expect(reading, step)


def _check_open(tokens):
    """Refuse a text in which too much is open at once."""
    many = 0
    for _, token, _ in tokens:
        if token in ("(", "[", "if"):
            many += 1
        elif token in (")", "]", "else"):
            many -= 1
        if many > MOST_OPEN:
            raise TooGreat("depth")


def _read(text, first):
    """What a text is, read as this step."""
    tokens = scanned(text)
    _check_open(tokens)
    reading = Reading(tokens, first)
    while reading.todo:
        _do(reading, reading.todo.pop())
    if tokens[reading.at][0] != "end":
        reading.fail()
    return reading.made[0]


def _is_within_bounds(term):
    """Whether a term has at most 200 nodes and is at most 40 deep."""
    rows = written(term)
    depths = []
    for _, parent, _ in rows:
        depths.append(depths[parent] + 1 if parent >= 0 else 0)
    return len(rows) <= MOST_NODES and max(depths) <= MOST_DEEP


def _kind_depth(kind):
    """How deep a kind is; num, few and rows are 1 deep."""
    deepest = 1
    todo = [(kind, 1)]
    while todo:
        part, depth = todo.pop()
        deepest = max(deepest, depth)
        if part[0] in ("to", "both"):
            todo.append((part[1], depth + 1))
            todo.append((part[2], depth + 1))
    return deepest


def read_term(text):
    """The term of a text."""
    term = _read(text, "TERM")
    if not _is_within_bounds(term):
        raise TooGreat("term")
    return term


def read_kind(text):
    """The kind of a text."""
    kind = _read(text, "KIND")
    if _kind_depth(kind) > DEEPEST_KIND:
        raise TooGreat("kind")
    return kind
