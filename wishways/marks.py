"""Marked places, their own cuts, and plans of ways between them."""

from wishways.basics import are_integers, is_integer, is_rising, is_tuple_of
from wishways.errors import InvalidMarks, InvalidPlace
from wishways.owncuts import is_own, least_own, own_rooms
from wishways.partings import is_cut, sum_across
from wishways.ways import is_way, positions_along
from wishways.webs import check_web, summed_at


def are_places_of(web, value):
    """Whether any value is a rising tuple of places of a web that is one, perhaps of none."""
    if not isinstance(value, tuple) or not are_integers(value) or not is_rising(value):
        return False
    return value == () or (value[0] >= 0 and value[-1] < web[1])


def is_marks(web, value):
    """Whether any value is marks of the web."""
    check_web(web)
    return are_places_of(web, value) and len(value) >= 2


def check_marks(web, marks):
    if not is_marks(web, marks):
        raise InvalidMarks(marks)


def is_inner_even(web, marks):
    """Whether at each inner place the rooms of its ties come to an even number."""
    check_marks(web, marks)
    return all([summed_at(web[2], place) % 2 == 0 for place in range(web[1]) if place not in marks])


def told_own(web, marks, place):
    """The tuple (room, cut) of a marked place's least own cut."""
    check_marks(web, marks)
    if not is_integer(place) or place not in marks:
        raise InvalidPlace(place)
    return least_own(web[1], web[2], marks, place)


def own_room(web, marks, place):
    """The least room of the marked place's own cuts."""
    return told_own(web, marks, place)[0]


def own_cut(web, marks, place):
    """The first one of the marked place's own cuts with the least room."""
    return told_own(web, marks, place)[1]


def own_sum(web, marks):
    """The sum of all own rooms."""
    check_marks(web, marks)
    return sum(own_rooms(web[1], web[2], marks))


def is_mark_way(web, marks, value):
    """Whether any value is a way from a marked place to a greater one, all of whose other places are inner."""
    if not is_way(web, value) or value[0] > value[-1]:
        return False
    return [place for place in value if place in marks] == [value[0], value[-1]]


def is_mark_part(web, marks, value):
    """Whether any value is a tuple of a mark way and an INTEGER of at least 1."""
    return is_tuple_of(value, 2) and is_mark_way(web, marks, value[0]) and is_integer(value[1]) and value[1] >= 1


def does_mark_plan_fit(web, value):
    """Whether no tie's load is above its room, by tuples of ways and numbers."""
    laid = [(positions_along(web, way), much) for way, much in value]
    return all([sum([much for ties, much in laid if at in ties]) <= tie[2] for at, tie in enumerate(web[2])])


def is_mark_plan(web, marks, value):
    """Whether any value is a mark plan that fits."""
    check_marks(web, marks)
    if not isinstance(value, tuple) or not all([is_mark_part(web, marks, part) for part in value]):
        return False
    return is_rising([way for way, _ in value]) and does_mark_plan_fit(web, value)


def are_own_cuts(web, marks, value):
    """Whether any value is a tuple of an own cut for each mark, in the marks' sequence."""
    if not is_tuple_of(value, len(marks)):
        return False
    return all([is_cut(web, cut) and is_own(web[1], marks, place, cut) for place, cut in zip(marks, value)])


def is_most(web, marks, value, cuts):
    """Whether any values are a mark plan that fits, and own cuts whose rooms come to twice its worth."""
    if not is_mark_plan(web, marks, value) or not are_own_cuts(web, marks, cuts):
        return False
    return sum([sum_across(web[2], cut) for cut in cuts]) == 2 * sum([much for _, much in value])
