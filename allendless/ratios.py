"""Fractions: pairs (p, q) of integers in lowest terms, q at least 1."""

from math import gcd


def ratio(p, q):
    """The fraction p / q, q being above 0."""
    common = gcd(p, q)
    return (p // common, q // common)


def total_of(ratios):
    """The sum of fractions."""
    p = 0
    q = 1
    for over, under in ratios:
        p, q = ratio(p * under + over * q, q * under)
    return (p, q)


def mean_of_all(ratios):
    """The sum of some fractions over their number, which is not 0."""
    p, q = total_of(ratios)
    return ratio(p, q * len(ratios))


def is_less(one, other):
    """Whether a fraction is below another one."""
    return one[0] * other[1] < other[0] * one[1]


def greatest_ratio(ratios):
    """The greatest of some fractions."""
    greatest = ratios[0]
    for other in ratios:
        if is_less(greatest, other):
            greatest = other
    return greatest


def least_ratio(ratios):
    """The least of some fractions."""
    lowest = ratios[0]
    for other in ratios:
        if is_less(other, lowest):
            lowest = other
    return lowest
