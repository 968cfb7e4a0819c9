"""Rows: tuples of 1 to 40 INTEGERS, and ratios told by one under."""

from math import gcd, lcm

from wishways.basics import are_integers, is_listed
from wishways.errors import InvalidRatios, InvalidRow, NoQuotient, UnlikeLengths
from wishways.ratios import check_integer, is_ratio, reduced


def is_row(value):
    return isinstance(value, tuple) and 1 <= len(value) <= 40 and are_integers(value)


def check_row(value):
    if not is_row(value):
        raise InvalidRow(value)


def check_rows(row, other):
    check_row(row)
    check_row(other)
    if len(row) != len(other):
        raise UnlikeLengths()


def check_ratio_list(ratios):
    if not is_listed(ratios) or not 1 <= len(ratios) <= 40:
        raise InvalidRatios(ratios)
    if not all([is_ratio(ratio) for ratio in ratios]):
        raise InvalidRatios(ratios)


def summed_products(row, other):
    return sum([number * factor for number, factor in zip(row, other)])


def row_product(row, other):
    """The sum, position by position, of the products of their numbers."""
    check_rows(row, other)
    return summed_products(row, other)


def row_sum(row, other):
    check_rows(row, other)
    return tuple([number + more for number, more in zip(row, other)])


def row_taken(row, number):
    """The row taken so often."""
    check_row(row)
    check_integer(number)
    return tuple([part * number for part in row])


def row_divisor(row):
    """The greatest common divisor of the row's numbers, 0 if all are 0."""
    check_row(row)
    divisor = 0
    for number in row:
        divisor = gcd(divisor, number)
    return divisor


def row_reduced(row):
    """The row divided by its divisor."""
    divisor = row_divisor(row)
    if divisor == 0:
        return row
    return tuple([number // divisor for number in row])


def common_under(ratios):
    """The least INTEGER above 0 that makes all the ratios whole."""
    check_ratio_list(ratios)
    under = 1
    for ratio in ratios:
        under = lcm(under, ratio[1])
    return under


def whole_row(ratios):
    """The tuple (row, under) of the common under and the products with it."""
    under = common_under(ratios)
    return (tuple([ratio[0] * (under // ratio[1]) for ratio in ratios]), under)


def ratios_of(row, under):
    """The tuple of the ratios made of each number of the row and the under."""
    check_row(row)
    check_integer(under)
    if under == 0:
        raise NoQuotient()
    return tuple([reduced(number, under) for number in row])
