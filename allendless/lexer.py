"""Tokens: the words, numbers and signs of a text, and where they stand."""

from allendless.errors import BadText, TooGreat

LONGEST_TEXT = 20000
LONGEST_NUMBER = 18
LETTERS = "abcdefghijklmnopqrstuvwxyz"
DIGITS = "0123456789"
WORD_SIGNS = "abcdefghijklmnopqrstuvwxyz0123456789_"
SIGNS = "()[],.:&<=+-*/|"


def _end_of(text, at, signs):
    """Where the signs that stand together from a place on end."""
    while at < len(text) and text[at] in signs:
        at += 1
    return at


def _behind_remark(text, at):
    """The end of the row of a remark; or its first character that can stand in no text."""
    while at < len(text) and " " <= text[at] <= "~":
        at += 1
    return at


def _token_at(text, at):
    """The token that begins at a place: (SORT, TOKEN, where it ends), SORT empty if none begins there."""
    sign = text[at]
    if sign in LETTERS:
        end = _end_of(text, at, WORD_SIGNS)
        return "word", text[at:end], end
    if sign in DIGITS:
        end = _end_of(text, at, DIGITS)
        if end - at > LONGEST_NUMBER or (sign == "0" and end - at > 1):
            return "", "", at
        return "number", int(text[at:end]), end
    if text[at:at + 2] == "->":
        return "sign", "->", at + 2
    if sign in SIGNS:
        return "sign", sign, at + 1
    return "", "", at


def scanned(text):
    """The list of the tokens up to the first character that begins none.

    Its last triple is ("end", "", the position behind the text) or ("bad", "", that character's position).
    """
    if len(text) > LONGEST_TEXT:
        raise TooGreat("text")
    found = []
    at = 0
    row = 1
    begin = 0
    while at < len(text):
        position = (row, at - begin + 1)
        if text[at] == "\n":
            at += 1
            row += 1
            begin = at
        elif text[at] == " ":
            at += 1
        elif text[at] == "#":
            at = _behind_remark(text, at)
        else:
            sort, token, at = _token_at(text, at)
            if not sort:
                found.append(("bad", "", position))
                return found
            found.append((sort, token, position))
    found.append(("end", "", (row, at - begin + 1)))
    return found


def tokens_of(text):
    """The tokens of a text, as triples (SORT, TOKEN, POSITION), an end behind them."""
    found = scanned(text)
    sort, _, position = found[-1]
    if sort == "bad":
        raise BadText(position)
    return tuple(found)
