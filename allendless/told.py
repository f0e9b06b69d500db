"""Told rows, which go round in the end, and known entries."""

from allendless.data import TOP, is_between


def _are_digits(size, value):
    """Whether a value is a tuple of digits below a size."""
    return isinstance(value, tuple) and all([is_between(digit, 0, size - 1) for digit in value])


def is_told(m, value):
    """Whether a value is a told row over m."""
    if not isinstance(value, tuple) or len(value) != 2:
        return False
    return _are_digits(m, value[0]) and _are_digits(m, value[1]) and len(value[1]) > 0


def told_entry(row, i):
    """Entry i of a told row."""
    beginning, around = row
    if i < len(beginning):
        return beginning[i]
    return around[(i - len(beginning)) % len(around)]


def _shortest_part(around):
    """The shortest tuple of which a tuple is a repetition."""
    for many in range(1, len(around)):
        if len(around) % many == 0 and around[:many] * (len(around) // many) == around:
            return around[:many]
    return around


def least_told(row):
    """The told row of the same entries with the shortest beginning, and then the shortest round."""
    beginning, around = row
    around = _shortest_part(around)
    while beginning and beginning[-1] == around[-1]:
        beginning = beginning[:-1]
        around = around[-1:] + around[:-1]
    return (beginning, around)


def same_told(row, other):
    """Whether two told rows have the same entries."""
    return least_told(row) == least_told(other)


def is_place(sizes, value):
    """Whether a value is a place of rows over these sizes."""
    if not isinstance(value, tuple) or len(value) != 2:
        return False
    return is_between(value[0], 0, TOP) and is_between(value[1], 0, len(sizes) - 1)


def _is_entry(sizes, value):
    """Whether a value is a pair of a place and a digit that can stand there."""
    if not isinstance(value, tuple) or len(value) != 2 or not is_place(sizes, value[0]):
        return False
    return is_between(value[1], 0, sizes[value[0][1]] - 1)


def is_known(sizes, value):
    """Whether a value is known entries for rows over these sizes."""
    if not isinstance(value, tuple) or not all([_is_entry(sizes, entry) for entry in value]):
        return False
    return all([value[at - 1][0] < value[at][0] for at in range(1, len(value))])


def go_together(known, other):
    """Whether no place has unlike digits in two known entries."""
    digits = {place: digit for place, digit in known}
    return all([digits.get(place, digit) == digit for place, digit in other])


def together(known, other):
    """The known entries of both."""
    digits = {place: digit for place, digit in known}
    for place, digit in other:
        digits[place] = digit
    return known_of(digits)


def known_of(digits):
    """The known entries of a dict from places to digits."""
    return tuple([(place, digits[place]) for place in sorted(digits)])


def known_at(rows, places):
    """What is known if these places of told rows are read."""
    return known_of({(i, k): told_entry(rows[k], i) for i, k in places})
