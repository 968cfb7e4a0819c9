"""Plans: ways with ratios, what they load the ties with, and what the pairs get by them."""

from wishways.amounts import added, is_above_none, is_at_most, multiplied, summed
from wishways.basics import is_rising, is_tuple_of
from wishways.errors import InvalidPlan, InvalidRatio
from wishways.ratios import is_ratio
from wishways.ways import is_way, positions_along
from wishways.webs import check_traffic


def is_led(web, pairs, value):
    """Whether any value is a tuple of a way of one of the pairs, from its lesser place on, and a ratio above 0."""
    if not is_tuple_of(value, 2) or not is_way(web, value[0]) or (value[0][0], value[0][-1]) not in pairs:
        return False
    return is_ratio(value[1]) and is_above_none(value[1])


def is_plan(web, wishes, value):
    """Whether any value is a plan of the web for the wishes."""
    check_traffic(web, wishes)
    pairs = [wish[:2] for wish in wishes]
    if not isinstance(value, tuple) or not all([is_led(web, pairs, part) for part in value]):
        return False
    return is_rising([way for way, _ in value])


def check_plan(web, wishes, plan):
    if not is_plan(web, wishes, plan):
        raise InvalidPlan(plan)


def loads(web, wishes, plan):
    """The tuple of the ties' loads, in the ties' sequence."""
    check_plan(web, wishes, plan)
    laid = [(positions_along(web, way), ratio) for way, ratio in plan]
    return tuple([summed([ratio for ties, ratio in laid if at in ties]) for at in range(len(web[2]))])


def got(web, wishes, plan):
    """The tuple of what the pairs get, in the wishes' sequence."""
    check_plan(web, wishes, plan)
    return tuple([summed([ratio for _, ratio in parts_of_pair(plan, wish)]) for wish in wishes])


def parts_of_pair(plan, wish):
    """The list of a plan's tuples whose way is of the wish's pair."""
    return [part for part in plan if (part[0][0], part[0][-1]) == wish[:2]]


def fits(web, wishes, plan):
    """Whether no load is above the tie's room."""
    return all([is_at_most(load, (tie[2], 1)) for load, tie in zip(loads(web, wishes, plan), web[2])])


def serves(web, wishes, plan):
    """Whether each pair gets just its wish."""
    return got(web, wishes, plan) == tuple([(wish[2], 1) for wish in wishes])


def has_unders(plan, most):
    return all([ratio[1] <= most for _, ratio in plan])


def in_wholes(web, wishes, plan):
    """Whether all ratios have the under 1."""
    check_plan(web, wishes, plan)
    return has_unders(plan, 1)


def in_halves(web, wishes, plan):
    """Whether all ratios have the under 1 or 2."""
    check_plan(web, wishes, plan)
    return has_unders(plan, 2)


def plans_added(web, wishes, plan, other):
    """The plan with the sums of the ratios of both."""
    check_plan(web, wishes, plan)
    check_plan(web, wishes, other)
    both = dict(plan)
    for way, ratio in other:
        both[way] = added(both[way], ratio) if way in both else ratio
    return tuple(sorted(both.items()))


def plan_taken(web, wishes, plan, ratio):
    """The plan with all ratios times this one, which is above 0."""
    check_plan(web, wishes, plan)
    if not is_ratio(ratio) or not is_above_none(ratio):
        raise InvalidRatio(ratio)
    return tuple([(way, multiplied(part, ratio)) for way, part in plan])
