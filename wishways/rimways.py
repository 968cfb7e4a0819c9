"""Wishes at the rim, served: in wholes if all is even, otherwise in halves."""

from wishways.partings import cuts_of_many, is_across, sum_across
from wishways.ratios import reduced
from wishways.rimcuts import rim_cut, rim_over_asked
from wishways.twopairs import is_even, taken_times
from wishways.ways import positions_along, ways_of


def rim_served(flat, wishes):
    """Whether no two steps that meet are over-asked."""
    return rim_over_asked(flat, wishes) == []


def used_by(web, cuts, way):
    """The list of how much of each tie's room, then of each cut's slack, 1 along the way takes."""
    ties = positions_along(web, way)
    laid = [1 if at in ties else 0 for at in range(len(web[2]))]
    for cut in cuts:
        over = len([at for at in ties if is_across(cut, web[2][at])])
        laid.append(over - 1 if is_across(cut, (way[0], way[-1])) else over)
    return laid


def led_in_wholes(web, ties, wishes):
    """The list of tuples (way, much) that serve wishes at the rim, all even, no cut over-asked, by ties with rooms.

    While all is even and no cut is over-asked, all wishes can be served in wholes, so for each of them some way can be
    gone along, with nothing over-asked by what is left. What a cut has left never grows: no way needs a second look.
    """
    cuts = cuts_of_many(web[1])
    left = [tie[2] for tie in ties] + [sum_across(ties, cut) - sum_across(wishes, cut) for cut in cuts]
    parts = []
    for one, other, wish in wishes:
        asked = wish
        for way in ways_of(web, one, other):
            used = used_by(web, cuts, way)
            much = min([asked] + [most // part for most, part in zip(left, used) if part > 0])
            if much > 0:
                left = [most - much * part for most, part in zip(left, used)]
                asked -= much
                parts.append((way, much))
    return parts


def rim_plan(flat, wishes):
    """A plan that fits and serves, in wholes if all is even, otherwise in halves; None if there is none."""
    if not rim_served(flat, wishes):
        return None
    web = flat[1]
    # Twice the rooms and twice the wishes are even.
    times = 1 if is_even(web, wishes) else 2
    parts = led_in_wholes(web, taken_times(web[2], times), taken_times(wishes, times))
    return tuple(sorted([(way, reduced(much, times)) for way, much in parts]))


def rim_paper(flat, wishes):
    """A plan paper, or the cut paper of the rim cut of the first two steps that are over-asked."""
    over = rim_over_asked(flat, wishes)
    return ("cut", rim_cut(flat, over[0][0], over[0][1])) if over else ("plan", rim_plan(flat, wishes))
