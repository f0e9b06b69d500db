"""Greatest and least values, means, areas and roots of functions of real numbers that are told by programs."""

from allendless.begun import entries_tree, many_parameters, sum_of_digits, sums_tree
from allendless.data import power
from allendless.errors import NoSign
from allendless.ratios import ratio
from allendless.reals import row_of
from allendless.trees import ends_of, value_on

# A sum from -1 to 1 leaves the sign open.
GREATEST_OPEN = 1


def _sums_told(program, n):
    """The pairs (known entries, sum) of the first n entries of what a number program gives."""
    return ends_of(sums_tree(entries_tree(program, n)))


def _around(total, n):
    """The two numbers between which rows are whose first n entries have this sum."""
    return (ratio(total - 1, power(2, n)), ratio(total + 1, power(2, n)))


def greatest_value(program, n):
    """Two fractions between which the least upper bound of the numbers of all results is."""
    return _around(max([total for _, total in _sums_told(program, n)]), n)


def least_value(program, n):
    """Two fractions between which the greatest lower bound of the numbers of all results is."""
    return _around(min([total for _, total in _sums_told(program, n)]), n)


def mean_value(program, n):
    """The mean of the sum of the first n entries over 2 ** n, over all rows with the entries 0 and 2 alone."""
    even = [(len(known), total) for known, total in _sums_told(program, n) if all([digit != 1 for _, digit in known])]
    longest = max([many for many, _ in even])
    whole = sum([total * power(2, longest - many) for many, total in even])
    return ratio(whole, power(2, longest + n))


def area(program, n):
    """Two fractions between which the area is."""
    p, q = mean_value(program, n)
    size = power(2, many_parameters(program))
    width = power(2, n)
    return (ratio(size * (p * width - q), q * width), ratio(size * (p * width + q), q * width))


def _sign(entries, many):
    """The sign that the first entries of a result tell."""
    total = sum_of_digits(entries[:many])
    if total > GREATEST_OPEN:
        return 1
    return -1 if total < -GREATEST_OPEN else 0


def _settled_sign(low, high):
    """The sign by which two fractions are settled, by the results for both; 0 if they are not."""
    for many in range(1, len(low) + 1):
        sign = _sign(low, many) or _sign(high, many)
        if sign != 0:
            return sign
    return 0


def root(program, n, most):
    """The first n digits of a row of the number at which a rising function of one number is 0."""
    tree = entries_tree(program, most)
    digits = []
    # The next digit is told by the numbers c - w / 2, c and c + w / 2, that is (2 p - 1) / q, 2 p / q, (2 p + 1) / q.
    p = 0
    q = 2
    for i in range(n):
        results = [value_on(tree, (row_of(at, q),)) for at in (2 * p - 1, 2 * p, 2 * p + 1)]
        sign = _settled_sign(results[0], results[1])
        digit = 0
        if sign < 0:
            sign = _settled_sign(results[1], results[2])
            digit = 1 if sign > 0 else 2
        if sign == 0:
            raise NoSign(i)
        digits.append(digit)
        p = 2 * p + digit - 1
        q = 2 * q
    return tuple(digits)
