"""All cuts of a web, their rooms, and what wishes ask of them."""

from wishways.basics import are_integers, is_listed
from wishways.errors import InvalidSide
from wishways.partings import check_cut, cut_with_side, cuts_of_many, is_across, sum_across
from wishways.webs import check_traffic, check_web


def all_cuts(web):
    """The sorted list of all cuts."""
    check_web(web)
    return cuts_of_many(web[1])


def is_side(web, value):
    """Whether any value is a list of unlike places of the web, at least one, not all."""
    if not is_listed(value) or not are_integers(value) or not 1 <= len(value) < web[1]:
        return False
    lot = sorted(value)
    return lot[0] >= 0 and lot[-1] < web[1] and len(set(lot)) == len(lot)


def cut_of(web, side):
    """The cut of a lot of places, told in any sequence."""
    check_web(web)
    if not is_side(web, side):
        raise InvalidSide(side)
    return cut_with_side(web[1], side)


def crossing_ties(web, cut):
    """The rising list of the positions of the ties that cross."""
    check_web(web)
    check_cut(web, cut)
    return [at for at, tie in enumerate(web[2]) if is_across(cut, tie)]


def room_of_cut(web, cut):
    check_web(web)
    check_cut(web, cut)
    return sum_across(web[2], cut)


def wish_of_cut(web, wishes, cut):
    check_traffic(web, wishes)
    check_cut(web, cut)
    return sum_across(wishes, cut)


def slack(web, wishes, cut):
    """The cut's room less its wish."""
    check_traffic(web, wishes)
    check_cut(web, cut)
    return left_by(web, wishes, cut)


def left_by(web, wishes, cut):
    return sum_across(web[2], cut) - sum_across(wishes, cut)


def slacks(web, wishes):
    """The list, in the cuts' sequence, of tuples (cut, slack) of all cuts."""
    check_traffic(web, wishes)
    return [(cut, left_by(web, wishes, cut)) for cut in cuts_of_many(web[1])]


def over_asked(web, wishes):
    """The sorted list of the cuts that are over-asked."""
    return [cut for cut, left in slacks(web, wishes) if left < 0]


def tight_cuts(web, wishes):
    """The sorted list of the cuts without any slack."""
    return [cut for cut, left in slacks(web, wishes) if left == 0]


def has_room_everywhere(web, wishes):
    """Whether no cut is over-asked."""
    return over_asked(web, wishes) == []


def least_slack(web, wishes):
    """The tuple (cut, slack) of the first cut with the least slack."""
    return min(slacks(web, wishes), key=lambda row: row[1])
