"""Least cuts of two places, the weakest cut, and firm cuts."""

from wishways.links import are_joined
from wishways.partings import check_cut, cut_with_side, cuts_of_many, is_across, places_beyond, side_with, sum_across
from wishways.webs import check_two, check_web


def of_least_room(web, cuts):
    """Of a list of cuts those of which none has less room, in the list's sequence."""
    rooms = [sum_across(web[2], cut) for cut in cuts]
    least = min(rooms)
    return [cut for cut, room in zip(cuts, rooms) if room == least]


def least_cuts(web, one, other):
    """The sorted list of all least cuts of the two places."""
    check_two(web, one, other)
    return of_least_room(web, [cut for cut in cuts_of_many(web[1]) if is_across(cut, (one, other))])


def least_cut(web, one, other):
    """The first least cut of the two places."""
    return least_cuts(web, one, other)[0]


def least_room(web, one, other):
    """The room of a least cut of the two places."""
    cut = least_cut(web, one, other)
    return sum_across(web[2], cut)


def nearest_cut(web, one, other):
    """The cut of what is common to all least sides of the one place against the other one."""
    cuts = least_cuts(web, one, other)
    common = list(range(web[1]))
    for cut in cuts:
        side = side_with(web[1], cut, one)
        common = [place for place in common if place in side]
    return cut_with_side(web[1], common)


def weakest_cut(web):
    """The first cut of which none has less room."""
    check_web(web)
    return of_least_room(web, cuts_of_many(web[1]))[0]


def has_joined_sides(web, cut):
    return are_joined(cut, web[2]) and are_joined(places_beyond(web[1], cut), web[2])


def is_firm(web, cut):
    """Whether each of the cut's two sides is joined."""
    check_web(web)
    check_cut(web, cut)
    return has_joined_sides(web, cut)


def firm_cuts(web):
    """The sorted list of all firm cuts."""
    check_web(web)
    return [cut for cut in cuts_of_many(web[1]) if has_joined_sides(web, cut)]
