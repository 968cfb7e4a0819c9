"""Ways of a web, and the ties along them."""

from wishways.basics import are_integers
from wishways.errors import InvalidWay
from wishways.webs import check_web


def tie_positions(web):
    """The dict of the positions of the ties by their two places, the lesser one first."""
    return {(tie[0], tie[1]): at for at, tie in enumerate(web[2])}


def are_steps(web, value):
    """Whether each of a tuple of INTEGERS but the first one is tied to the one ahead of it."""
    positions = tie_positions(web)
    return all([(min(one, other), max(one, other)) in positions for one, other in zip(value, value[1:])])


def is_way(web, value):
    """Whether any value is a way of the web."""
    check_web(web)
    if not isinstance(value, tuple) or len(value) < 2 or not are_integers(value):
        return False
    return len(set(value)) == len(value) and are_steps(web, value)


def signed_steps(web, way):
    """The list, step by step, of tuples (position of the tie, 1 towards its greater place or -1)."""
    positions = tie_positions(web)
    return [(positions[(one, other)], 1) if one < other else (positions[(other, one)], -1)
            for one, other in zip(way, way[1:])]


def ties_of_way(web, way):
    """The tuple of the positions of the ties along a way."""
    if not is_way(web, way):
        raise InvalidWay(way)
    return tuple([at for at, _ in signed_steps(web, way)])
