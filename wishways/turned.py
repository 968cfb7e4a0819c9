"""Turnings: each tie as so many steps as its room, each of which goes one way."""

from wishways.basics import are_integers, is_listed, is_tuple_of
from wishways.errors import InvalidSurplus, InvalidTurning
from wishways.partings import cuts_of_many, sum_across
from wishways.pushing import more_away, open_way
from wishways.ways import signed_steps
from wishways.webs import check_web, summed_at


def is_surplus(web, value):
    """Whether any value is a surplus of the web."""
    return is_listed(value) and len(value) == web[1] and are_integers(value) and sum(value) == 0


def check_surplus(web, surplus):
    if not is_surplus(web, surplus):
        raise InvalidSurplus(surplus)


def is_turning(web, value):
    """Whether any value is a turning of the web."""
    check_web(web)
    if not is_tuple_of(value, len(web[2])) or not are_integers(value):
        return False
    return all([abs(much) <= tie[2] and (tie[2] - much) % 2 == 0 for tie, much in zip(web[2], value)])


def surplus_by(web, turning):
    """The list, place by place, of how many more steps go away than come."""
    return [more_away(web, turning, place) for place in range(web[1])]


def surplus_of(web, turning):
    """The surplus that the turning has."""
    if not is_turning(web, turning):
        raise InvalidTurning(turning)
    return surplus_by(web, turning)


def is_turned(web, surplus, value):
    """Whether any value is a turning that has the surplus."""
    check_web(web)
    check_surplus(web, surplus)
    return is_turning(web, value) and surplus_by(web, value) == list(surplus)


def odd_against(web, surplus):
    """The rising list of the places at which the surplus isn't as even or odd as the rooms."""
    return [place for place in range(web[1]) if (summed_at(web[2], place) - surplus[place]) % 2 != 0]


def turned_about(web, turning, way, most):
    """The turning with at most so many steps along a way turned about, as many as there are along all its ties."""
    steps = signed_steps(web, way)
    many = min([most] + [(web[2][at][2] + sign * turning[at]) // 2 for at, sign in steps])
    made = list(turning)
    for at, sign in steps:
        made[at] -= 2 * sign * many
    return made


def mended(web, turning, surplus):
    """The turning nearer to the surplus, None if no way of steps leads from too much going away to too little."""
    over = [has - wanted for has, wanted in zip(surplus_by(web, turning), surplus)]
    spare = [(tie[2] + much, tie[2] - much) for tie, much in zip(web[2], turning)]
    for one in [place for place in range(web[1]) if over[place] > 0]:
        for other in [place for place in range(web[1]) if over[place] < 0]:
            way = open_way(web, spare, one, other)
            if way:
                return turned_about(web, turning, way, min(over[one], -over[other]) // 2)
    return None


def turned_to(web, surplus):
    """A turning that has the surplus, None if there is none, of a web of whatever size and rooms."""
    if odd_against(web, surplus):
        return None
    turning = [tie[2] for tie in web[2]]
    while surplus_by(web, turning) != list(surplus):
        turning = mended(web, turning, surplus)
        if turning is None:
            return None
    return tuple(turning)


def turned(web, surplus):
    """A turning that has the surplus, None if there is none."""
    check_web(web)
    check_surplus(web, surplus)
    return turned_to(web, surplus)


def turned_bar(web, surplus):
    """None if some turning has the surplus, otherwise ("odd", place) or ("cut", cut) with the first that bars."""
    check_web(web)
    check_surplus(web, surplus)
    odd = odd_against(web, surplus)
    if odd:
        return ("odd", odd[0])
    for cut in cuts_of_many(web[1]):
        if abs(sum([surplus[place] for place in cut])) > sum_across(web[2], cut):
            return ("cut", cut)
    return None
