"""Writing: the texts of terms and kinds, with the fewest brackets.

What is still to be written stands in a list; so terms and kinds may be as deep as they like.
"""

# Levels: forms of a lower one stand in brackets where a higher one is wanted.
TERM = 0
TEST = 1
SUM = 2
PRODUCT = 3
POST = 4
PLAIN = 5
KIND = 0
SIDE = 1
ATOM = 2

SIGNS = {
    "below": " < ", "same": " = ", "add": " + ", "less": " - ", "times": " * ", "over": " / ", "rest": " | ",
}


def _kind_part(kind, wanted):
    return ("kind", kind, wanted)


def _term_part(term, wanted):
    return ("term", term, wanted)


def _kind_parts(kind):
    """The level of a kind, and its pieces: strings, and kinds with the levels wanted."""
    if kind[0] == "to":
        return KIND, (_kind_part(kind[1], SIDE), " -> ", _kind_part(kind[2], KIND))
    if kind[0] == "both":
        return SIDE, (_kind_part(kind[1], SIDE), " & ", _kind_part(kind[2], ATOM))
    if kind[0] == "num":
        return ATOM, ("num",)
    return ATOM, (f"{kind[0]} {kind[1]}",)


def _var(term):
    return PLAIN, (term[1],)


def _digit(term):
    return PLAIN, (f"{term[2]}:{term[1]}",)


def _number(term):
    return PLAIN, (str(term[1]),)


def _prim(term):
    word = term[1]
    if word in ("below", "same"):
        level, left, right = TEST, SUM, SUM
    elif word in ("add", "less"):
        level, left, right = SUM, SUM, PRODUCT
    else:
        level, left, right = PRODUCT, PRODUCT, POST
    return level, (_term_part(term[2][0], left), SIGNS[word], _term_part(term[2][1], right))


def _as(term):
    return PLAIN, (f"as {term[1]} (", _term_part(term[2], TERM), ")")


def _listed(term):
    """first, second, count and repeat: a word and terms in brackets."""
    pieces = [term[0] + "(", _term_part(term[1], TERM)]
    for part in term[2:]:
        pieces.append(", ")
        pieces.append(_term_part(part, TERM))
    pieces.append(")")
    return PLAIN, tuple(pieces)


def _pair(term):
    return PLAIN, ("(", _term_part(term[1], TERM), ", ", _term_part(term[2], TERM), ")")


def _if(term):
    test = _term_part(term[1], TERM)
    return TERM, ("if ", test, " then ", _term_part(term[2], TERM), " else ", _term_part(term[3], TERM))


def _fn(term):
    return TERM, (f"fn {term[1]} : ", _kind_part(term[2], KIND), ". ", _term_part(term[3], TERM))


def _call(term):
    return POST, (_term_part(term[1], POST), "(", _term_part(term[2], TERM), ")")


def _at(term):
    return POST, (_term_part(term[1], POST), "[", _term_part(term[2], TERM), "]")


def _over_rows(term):
    return TERM, (f"{term[0]} {term[1]} of {term[2]}. ", _term_part(term[3], TERM))


def _share(term):
    head = f"share {term[1]} of {term[2]} times ("
    return TERM, (head, _term_part(term[4], TERM), "). ", _term_part(term[3], TERM))


def _contest(term):
    head = f"contest {term[1]} of {term[2]} by {term[3]} ("
    return TERM, (head, _term_part(term[4], TERM), "). ", _term_part(term[5], TERM))


WRITERS = {
    "var": _var, "digit": _digit, "number": _number, "prim": _prim, "as": _as, "count": _listed, "if": _if,
    "fn": _fn, "call": _call, "pair": _pair, "first": _listed, "second": _listed, "repeat": _listed,
    "at": _at, "row": _over_rows, "some": _over_rows, "every": _over_rows, "least": _over_rows,
    "greatest": _over_rows, "find": _over_rows, "share": _share, "contest": _contest,
}


def _text_of(first):
    """The text of a part: a kind or a term with the level wanted."""
    pieces = []
    todo = [first]
    while todo:
        part = todo.pop()
        if isinstance(part, str):
            pieces.append(part)
            continue
        sort, thing, wanted = part
        if sort == "kind":
            level, parts = _kind_parts(thing)
        else:
            action = WRITERS[thing[0]]
            level, parts = action(thing)
        if level < wanted:
            parts = ("(", *parts, ")")
        todo.extend(parts[::-1])
    return "".join(pieces)


def term_text(term):
    """The text of a term."""
    return _text_of(_term_part(term, TERM))


def kind_text(kind):
    """The text of a kind."""
    return _text_of(_kind_part(kind, KIND))
