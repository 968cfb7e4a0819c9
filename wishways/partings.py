"""Cuts of so many places, unchecked: what the modules of cuts, flows and trees have in common."""

from wishways.basics import are_integers, is_rising
from wishways.errors import InvalidCut


def cuts_of_many(many):
    """The sorted list of all cuts of so many places."""
    lots = [()]
    for place in range(1, many):
        lots = lots + [lot + (place,) for lot in lots]
    return sorted(lots)[1:]


def is_cut_of_many(many, value):
    """Whether any value is a cut of so many places."""
    if not isinstance(value, tuple) or len(value) == 0 or not are_integers(value) or not is_rising(value):
        return False
    return value[0] >= 1 and value[-1] < many


def is_cut(web, value):
    """Whether any value is a cut of the web."""
    return is_cut_of_many(web[1], value)


def check_cut(web, cut):
    """A cut of a web that is one."""
    if not is_cut(web, cut):
        raise InvalidCut(cut)


def is_across(cut, link):
    """Whether a tie, a wish or a pair crosses the cut; of two places, whether the cut parts them."""
    return (link[0] in cut) != (link[1] in cut)


def sum_across(rows, cut):
    """The sum of the rooms, or of the wishes, that cross the cut."""
    return sum([row[2] for row in rows if is_across(cut, row)])


def places_beyond(many, lot):
    """The rising list of the places that a lot lacks."""
    return [place for place in range(many) if place not in lot]


def cut_with_side(many, side):
    """The cut that stands for the parting into the side and all other places."""
    return tuple(places_beyond(many, side)) if 0 in side else tuple(sorted(side))


def side_with(many, cut, place):
    """The rising list of the places that the cut leaves on the place's side."""
    return list(cut) if place in cut else places_beyond(many, cut)
