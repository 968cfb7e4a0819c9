"""Cuts that cross, and lists of cuts of which no two do."""

from wishways.basics import is_listed, is_rising
from wishways.errors import InvalidCuts
from wishways.partings import check_cut, is_cut
from wishways.webs import check_web

MOST_CUTS = 12


def has_more(cut, second):
    """Whether the cut has a place that the second one lacks."""
    return any([place not in second for place in cut])


def do_cross(cut, second):
    common = [place for place in cut if place in second]
    return common != [] and has_more(cut, second) and has_more(second, cut)


def become(cut, second):
    """What is common to two cuts that cross, and both together."""
    common = [place for place in cut if place in second]
    together = list(cut) + [place for place in second if place not in cut]
    return (tuple(common), tuple(sorted(together)))


def check_two_cuts(web, cut, second):
    check_web(web)
    check_cut(web, cut)
    check_cut(web, second)


def check_cuts(web, cuts):
    check_web(web)
    if not is_listed(cuts) or len(cuts) > MOST_CUTS or not all([is_cut(web, cut) for cut in cuts]):
        raise InvalidCuts(cuts)


def cuts_cross(web, cut, second):
    """Whether the two cuts cross."""
    check_two_cuts(web, cut, second)
    return do_cross(cut, second)


def uncrossed(web, cut, second):
    """The tuple of the two cuts that they become."""
    check_two_cuts(web, cut, second)
    return become(cut, second) if do_cross(cut, second) else (cut, second)


def first_crossing(cuts):
    """The first pair of positions of two cuts that cross, None without one."""
    for low, cut in enumerate(cuts):
        for high in range(low + 1, len(cuts)):
            if do_cross(cut, cuts[high]):
                return (low, high)
    return None


def is_laminar(web, cuts):
    """Whether no two of the cuts cross."""
    check_cuts(web, cuts)
    return first_crossing(cuts) is None


def made_laminar(web, cuts):
    """The sorted list that the cuts become, uncrossed two by two."""
    check_cuts(web, cuts)
    made = sorted(cuts)
    pair = first_crossing(made)
    while pair is not None:
        low, high = pair
        others = made[:low] + made[low + 1:high] + made[high + 1:]
        made = sorted(others + list(become(made[low], made[high])))
        pair = first_crossing(made)
    return made


def holder(cuts, at):
    """The position of the cut with the fewest places of those that have all places of this one and more."""
    cut = cuts[at]
    wider = [(len(second), place) for place, second in enumerate(cuts)
             if has_more(second, cut) and not has_more(cut, second)]
    return min(wider)[1] if wider else None


def holders(web, cuts):
    """The list of the position of each cut's holder, None without one."""
    check_cuts(web, cuts)
    if not is_rising(cuts) or first_crossing(cuts) is not None:
        raise InvalidCuts(cuts)
    return [holder(cuts, at) for at in range(len(cuts))]
