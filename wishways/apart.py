"""Ways of one pair that have no tie in common, and ties that part the pair."""

from wishways.basics import are_integers, is_listed, is_rising
from wishways.cuts import all_cuts, crossing_ties
from wishways.links import come_to
from wishways.partings import is_across
from wishways.pushing import grown_flow, parted
from wishways.ways import is_way, ties_of_way
from wishways.webs import check_two


def with_rooms_of_one(web):
    return ("web", web[1], tuple([(one, other, 1) for one, other, _ in web[2]]))


def ways_apart(web, one, other):
    """A list of as many ways from one to other as can be apart."""
    check_two(web, one, other)
    # With all rooms 1 the ways of a flow have no tie in common.
    single = with_rooms_of_one(web)
    return [way for way, _ in parted(single, grown_flow(single, one, other), one, other)]


def is_way_between(web, one, other, value):
    return is_way(web, value) and value[0] == one and value[-1] == other


def are_apart(web, one, other, value):
    """Whether any value is a list of unlike ways from one to other that are apart."""
    check_two(web, one, other)
    if not is_listed(value) or not all([is_way_between(web, one, other, way) for way in value]):
        return False
    used = []
    for way in value:
        used.extend(ties_of_way(web, way))
    return len(set(used)) == len(used)


def parting_ties(web, one, other):
    """Of the fewest ties that part the two the first rising list of positions."""
    check_two(web, one, other)
    # Each fewest lot of ties that part is that of the ties which cross some cut.
    lots = [crossing_ties(web, cut) for cut in all_cuts(web) if is_across(cut, (one, other))]
    return min([(len(lot), lot) for lot in lots])[1]


def do_part(web, one, other, value):
    """Whether any value is a rising list of positions of ties that part the two."""
    check_two(web, one, other)
    if not is_listed(value) or not are_integers(value) or not is_rising(value):
        return False
    if any([at < 0 or at >= len(web[2]) for at in value]):
        return False
    return other not in come_to(one, [tie for at, tie in enumerate(web[2]) if at not in value])
