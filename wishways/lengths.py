"""Lengths of ties: of ways and of cuts, what wishes spend and the web has."""

from wishways.basics import is_tuple_of, is_within
from wishways.errors import InvalidLengths
from wishways.measuring import distance_rows
from wishways.partings import check_cut, is_across
from wishways.ways import ties_of_way
from wishways.webs import check_traffic, check_web

MOST_LENGTH = 1000000000000


def are_lengths(web, value):
    """Whether any value is lengths of a web that is one."""
    return is_tuple_of(value, len(web[2])) and all([is_within(length, 0, MOST_LENGTH) for length in value])


def is_lengths(web, value):
    """Whether any value is lengths of the web."""
    check_web(web)
    return are_lengths(web, value)


def check_lengths(web, lengths):
    """Lengths of a web that is one."""
    if not are_lengths(web, lengths):
        raise InvalidLengths(lengths)


def length_of(web, lengths, way):
    """The sum of the lengths of the way's ties."""
    check_web(web)
    check_lengths(web, lengths)
    return sum([lengths[at] for at in ties_of_way(web, way)])


def lengths_of_cut(web, cut):
    """1 at the ties that cross the cut, 0 at all others."""
    check_web(web)
    check_cut(web, cut)
    return crossing_lengths(web, cut)


def crossing_lengths(web, cut):
    return tuple([1 if is_across(cut, tie) else 0 for tie in web[2]])


def had(web, lengths):
    """The sum of room times length."""
    check_web(web)
    check_lengths(web, lengths)
    return sum([tie[2] * length for tie, length in zip(web[2], lengths)])


def spent(web, wishes, lengths):
    """The sum of wish times distance."""
    check_traffic(web, wishes)
    check_lengths(web, lengths)
    rows = distance_rows(web, lengths)
    return sum([wish * rows[one][other] for one, other, wish in wishes])


def bars(web, wishes, lengths):
    """Whether more is spent than had."""
    return spent(web, wishes, lengths) > had(web, lengths)
