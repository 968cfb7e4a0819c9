"""Ratios: tuples (number, under) without a common divisor, under at least 1."""

from math import gcd

from wishways.basics import check_text, is_integer, is_tuple_of
from wishways.errors import BadText, InvalidInteger, InvalidRatio, NoQuotient


def is_ratio(value):
    if not is_tuple_of(value, 2) or not is_integer(value[0]) or not is_integer(value[1]):
        return False
    number, under = value
    return under >= 1 and gcd(number, under) == 1


def check_integer(value):
    if not is_integer(value):
        raise InvalidInteger(value)


def check_ratio(value):
    if not is_ratio(value):
        raise InvalidRatio(value)


def check_ratios(near, far):
    check_ratio(near)
    check_ratio(far)


def reduced(number, under):
    """The ratio of two INTEGERS, the second one not 0."""
    divisor = gcd(number, under)
    if under < 0:
        divisor = -divisor
    return (number // divisor, under // divisor)


def made(number, under):
    """The ratio of the one divided by the other."""
    check_integer(number)
    check_integer(under)
    if under == 0:
        raise NoQuotient()
    return reduced(number, under)


def plus(near, far):
    check_ratios(near, far)
    return reduced(near[0] * far[1] + far[0] * near[1], near[1] * far[1])


def minus(near, far):
    check_ratios(near, far)
    return reduced(near[0] * far[1] - far[0] * near[1], near[1] * far[1])


def times(near, far):
    check_ratios(near, far)
    return reduced(near[0] * far[0], near[1] * far[1])


def over(near, far):
    """The quotient of two ratios."""
    check_ratios(near, far)
    if far[0] == 0:
        raise NoQuotient()
    return reduced(near[0] * far[1], near[1] * far[0])


def compared(near, far):
    """-1 if near is less than far, 1 if far is less than near, else 0."""
    check_ratios(near, far)
    left, right = near[0] * far[1], far[0] * near[1]
    if left == right:
        return 0
    return -1 if left < right else 1


def floor_of(ratio):
    """The greatest INTEGER that is not above the ratio."""
    check_ratio(ratio)
    return ratio[0] // ratio[1]


def ceiling_of(ratio):
    """The least INTEGER that is not below the ratio."""
    check_ratio(ratio)
    return -(-ratio[0] // ratio[1])


def ratio_text(ratio):
    check_ratio(ratio)
    number, under = ratio
    sign = "-" if number < 0 else ""
    text = sign + count_text(abs(number))
    return text if under == 1 else text + "/" + count_text(under)


def count_text(number):
    """The digits of a COUNT, piece by piece, as Python refuses to write some thousand digits at once."""
    pieces = []
    while number >= 10 ** 60:
        number, low = divmod(number, 10 ** 60)
        pieces.append(str(low).zfill(60))
    pieces.append(str(number))
    return "".join(pieces[::-1])


def parse_ratio(text):
    """The ratio that a text tells, perhaps not in least terms."""
    check_text(text)
    begin = 1 if text.startswith("-") else 0
    end = digits_end(text, begin)
    if end == len(text):
        return (int(text), 1)
    if text[end] != "/":
        raise BadText(end)
    if text.startswith("0", end + 1):
        raise BadText(end + 1)
    last = digits_end(text, end + 1)
    if last < len(text):
        raise BadText(last)
    return reduced(int(text[:end]), int(text[end + 1:]))


def digits_end(text, begin):
    """The place behind the digits, without needless zeros, that begin there."""
    if text.startswith("0", begin):
        return begin + 1
    end = begin
    while end < len(text) and "0" <= text[end] <= "9":
        end += 1
    if end == begin:
        raise BadText(end)
    return end
