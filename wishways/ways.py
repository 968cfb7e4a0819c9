"""Ways of a web, and the ties along them."""

from wishways.basics import are_integers
from wishways.errors import InvalidWay
from wishways.webs import check_place, check_web


def tie_positions(web):
    """The dict of the positions of the ties by their two places, the lesser one first."""
    return {(tie[0], tie[1]): at for at, tie in enumerate(web[2])}


def are_steps(web, value):
    """Whether each of a tuple of INTEGERS but the first one is tied to the one ahead of it."""
    positions = tie_positions(web)
    return all([(min(one, other), max(one, other)) in positions for one, other in zip(value, value[1:])])


def is_way(web, value):
    """Whether any value is a way of the web."""
    check_web(web)
    if not isinstance(value, tuple) or len(value) < 2 or not are_integers(value):
        return False
    return len(set(value)) == len(value) and are_steps(web, value)


def longer_ways(positions, way, many):
    """The list of the ways by one more place, of so many, than a tuple of places that has none twice."""
    return [way + (place,) for place in range(many)
            if place not in way and (min(way[-1], place), max(way[-1], place)) in positions]


def ways_of(web, one, other):
    """The sorted list of all ways from one to other."""
    check_web(web)
    check_place(web, one)
    check_place(web, other)
    positions = tie_positions(web)
    found = []
    ahead = [(one,)] if one != other else []
    while ahead:
        ways = longer_ways(positions, ahead.pop(), web[1])
        found.extend([way for way in ways if way[-1] == other])
        ahead.extend([way for way in ways if way[-1] != other])
    return sorted(found)


def signed_steps(web, way):
    """The list, step by step, of tuples (position of the tie, 1 towards its greater place or -1)."""
    positions = tie_positions(web)
    return [(positions[(one, other)], 1) if one < other else (positions[(other, one)], -1)
            for one, other in zip(way, way[1:])]


def positions_along(web, way):
    """The tuple of the positions of the ties along a way that is one."""
    return tuple([at for at, _ in signed_steps(web, way)])


def ties_of_way(web, way):
    """The tuple of the positions of the ties along a way."""
    if not is_way(web, way):
        raise InvalidWay(way)
    return positions_along(web, way)
