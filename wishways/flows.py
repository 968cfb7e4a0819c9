"""Flows of one pair, and the answer to a single wish."""

from wishways.basics import are_integers, is_tuple_of, is_within
from wishways.errors import InvalidFlow, InvalidWish
from wishways.leastcuts import least_cut, least_room
from wishways.partings import sum_across
from wishways.pushing import at_most, grown_flow, more_away, parted
from wishways.webs import check_two


def is_flow(web, one, other, value):
    """Whether any value is a flow from one to other."""
    check_two(web, one, other)
    if not is_tuple_of(value, len(web[2])) or not are_integers(value):
        return False
    if any([abs(much) > tie[2] for tie, much in zip(web[2], value)]):
        return False
    return all([more_away(web, value, place) == 0 for place in range(web[1]) if place not in (one, other)])


def value_of(web, one, other, flow):
    """How much more goes away from one than comes to it."""
    if not is_flow(web, one, other, flow):
        raise InvalidFlow(flow)
    return more_away(web, flow, one)


def greatest_flow(web, one, other):
    """A greatest flow from one to other."""
    check_two(web, one, other)
    return tuple(grown_flow(web, one, other))


def is_greatest(web, one, other, value):
    """Whether any value is a greatest flow from one to other."""
    return is_flow(web, one, other, value) and more_away(web, value, one) == least_room(web, one, other)


def ways_of_flow(web, one, other):
    """The list of tuples (way, much) of a greatest flow, each way from the lesser place to the greater one."""
    low, high = min(one, other), max(one, other)
    return parted(web, grown_flow(web, low, high), low, high)


def plan_of(parts):
    return tuple(sorted([(way, (much, 1)) for way, much in parts]))


def flow_plan(web, one, other):
    """A plan in wholes that gives the pair as much as a greatest flow's value."""
    check_two(web, one, other)
    return plan_of(ways_of_flow(web, one, other))


def pair_answer(web, one, other, wish):
    """("plan", plan) in wholes for this one wish, or ("cut", cut) with a least cut that is over-asked."""
    check_two(web, one, other)
    if not is_within(wish, 1, 20):
        raise InvalidWish(wish)
    cut = least_cut(web, one, other)
    if sum_across(web[2], cut) < wish:
        return ("cut", cut)
    return ("plan", plan_of(at_most(ways_of_flow(web, one, other), wish)))
