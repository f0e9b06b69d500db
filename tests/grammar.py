"""The grammar of DOC.md [7] as rules, and where a row of tokens stops being the beginning of a text."""

from allendless.kinds import is_name
from allendless.lexer import scanned

TEXT = """
KIND: SIDE | SIDE -> KIND
SIDE: ATOM | SIDE & ATOM
ATOM: num | few M | rows N | ( KIND )
TERM: fn NAME : KIND . TERM | row NAME of N . TERM | some NAME of N . TERM | every NAME of N . TERM
TERM: least NAME of N . TERM | greatest NAME of N . TERM | find NAME of N . TERM
TERM: share NAME of N times ( TERM ) . TERM | contest NAME of N by NAME ( TERM ) . TERM
TERM: if TERM then TERM else TERM | TEST
TEST: SUM | SUM < SUM | SUM = SUM
SUM: PRODUCT | SUM + PRODUCT | SUM - PRODUCT
PRODUCT: POST | PRODUCT * POST | PRODUCT / POST | PRODUCT bar POST
POST: PLAIN | POST ( TERM ) | POST [ TERM ]
PLAIN: NAME | NUMBER | ( TERM ) | ( TERM , TERM ) | first ( TERM ) | second ( TERM ) | count ( TERM )
PLAIN: as M ( TERM ) | repeat ( TERM , TERM , TERM )
"""
RULES = {}
for line in TEXT.strip().split("\n"):
    head, bodies = line.split(": ", 1)
    for body in bodies.split(" | "):
        RULES.setdefault(head, []).append(tuple("|" if part == "bar" else part for part in body.split()))
for digit in range(9):
    RULES["PLAIN"].append((digit, ":", ("above", digit)))
HEADS = tuple(RULES)


def fits(part, sort, token):
    """Whether a token can stand for a part of a rule that is no head."""
    if part == "NAME":
        return sort == "word" and is_name(token)
    if part == "NUMBER":
        return sort == "number"
    if part in ("M", "N"):
        return sort == "number" and (1 if part == "M" else 2) <= token <= 9
    if isinstance(part, tuple):
        return sort == "number" and part[1] < token <= 9
    return part == token and sort in ("word", "sign", "number")


def wrong_at(text, start):
    """The position at which a text is wrong as a TERM or a KIND, None if it is right."""
    tokens = scanned(text)
    sets = [{(start, body, 0, 0) for body in RULES[start]}]
    for at, (sort, token, position) in enumerate(tokens):
        complete(sets, at)
        if sort == "end" and any((start, body, len(body), 0) in sets[at] for body in RULES[start]):
            return None
        moved = {(head, body, dot + 1, origin) for head, body, dot, origin in sets[at]
                 if dot < len(body) and body[dot] not in HEADS and fits(body[dot], sort, token)}
        if not moved:
            return position
        sets.append(moved)
    raise AssertionError


def complete(sets, at):
    todo = list(sets[at])
    while todo:
        head, body, dot, origin = todo.pop()
        if dot == len(body):
            more = [(h, b, d + 1, o) for h, b, d, o in sets[origin] if d < len(b) and b[d] == head]
        elif body[dot] in HEADS:
            more = [(body[dot], other, 0, at) for other in RULES[body[dot]]]
        else:
            more = []
        for item in more:
            if item not in sets[at]:
                sets[at].add(item)
                todo.append(item)
