"""Plain data: numbers within bounds, and one text for each value."""

TOP = 10 ** 18 - 1


def is_between(value, low, high):
    """Whether a value is an integer (truths are none) from low to high."""
    return isinstance(value, int) and not isinstance(value, bool) and low <= value <= high


def data_text(value):
    """A text that unlike values do not share.

    Values may be nested too deep to be compared or to be keys themselves; their texts can do both.
    """
    pieces = []
    todo = [value]
    while todo:
        part = todo.pop()
        if isinstance(part, tuple):
            pieces.append(f"({len(part)}")
            todo.extend(part[::-1])
        elif isinstance(part, str):
            pieces.append(f"'{len(part)}:{part}")
        else:
            pieces.append(str(part))
    return " ".join(pieces)


def flat(value):
    """The integers of a plain value from left to right.

    Plain values of one kind have the order of these lists, however deep their pairs are.
    """
    found = []
    todo = [value]
    while todo:
        part = todo.pop()
        if isinstance(part, tuple):
            todo.extend(part[::-1])
        else:
            found.append(part)
    return found


def power(base, exponent):
    """A power of an integer, the exponent being any integer from 0 on."""
    made = 1
    while exponent > 0:
        if exponent & 1:
            made = made * base
        base = base * base
        exponent >>= 1
    return made
