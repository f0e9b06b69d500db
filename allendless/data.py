"""Plain data: numbers within bounds, and one text for each value."""

TOP = 10 ** 18 - 1


def is_between(value, low, high):
    """Whether a value is an integer (truths are none) from low to high."""
    return isinstance(value, int) and not isinstance(value, bool) and low <= value <= high


def data_text(value):
    """A text that unlike values do not share.

    Values may be nested too deep to be compared or to be keys themselves; their texts can do both.
    """
    pieces = []
    todo = [value]
    while todo:
        part = todo.pop()
        if isinstance(part, tuple):
            pieces.append(f"({len(part)}")
            todo.extend(part[::-1])
        elif isinstance(part, str):
            pieces.append(f"'{len(part)}:{part}")
        else:
            pieces.append(str(part))
    return " ".join(pieces)
