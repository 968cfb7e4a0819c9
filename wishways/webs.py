"""Webs, wishes and pairs: what they are, how they are made, and what is told of them at once."""

from wishways.basics import are_integers, is_headed, is_listed, is_rising, is_tuple_of, is_within
from wishways.errors import InvalidMany, InvalidOrder, InvalidPairs, InvalidPlace, InvalidRows, InvalidTies, InvalidWeb
from wishways.errors import InvalidWishes
from wishways.links import are_joined, ends_at, far_end

MOST_PLACES = 8
MOST_TIES = 14
MOST_WISHES = 6
MOST_ROOM = 20


def is_pair(value, many):
    """Whether any value that is a tuple begins with two places below many, the lesser one first."""
    return is_within(value[0], 0, many - 1) and is_within(value[1], 0, many - 1) and value[0] < value[1]


def are_rows(value, most, many):
    """Whether any value is a rising tuple of 1 to most tuples (one, other, much) of unlike pairs below many."""
    if not isinstance(value, tuple) or not 1 <= len(value) <= most:
        return False
    for row in value:
        if not is_tuple_of(row, 3) or not is_pair(row, many) or not is_within(row[2], 1, MOST_ROOM):
            return False
    return is_rising([row[:2] for row in value])


def is_web(value):
    if not is_headed(value, "web", 3) or not is_within(value[1], 2, MOST_PLACES):
        return False
    many, ties = value[1], value[2]
    return are_rows(ties, MOST_TIES, many) and are_joined(list(range(many)), ties)


def is_wishes(value):
    return are_rows(value, MOST_WISHES, MOST_PLACES)


def is_pairs(value):
    if not isinstance(value, tuple) or not 1 <= len(value) <= MOST_WISHES:
        return False
    return all([is_tuple_of(pair, 2) and is_pair(pair, MOST_PLACES) for pair in value]) and is_rising(value)


def is_traffic(value, other):
    """Whether any values are a web and wishes of it."""
    return is_web(value) and are_wishes(value, other)


def are_wishes(web, value):
    """Whether any value is wishes of a web that is one."""
    return are_rows(value, MOST_WISHES, web[1])


def check_web(web):
    if not is_web(web):
        raise InvalidWeb(web)


def check_wishes(web, wishes):
    """Wishes of a web that is one."""
    if not are_wishes(web, wishes):
        raise InvalidWishes(wishes)


def check_traffic(web, wishes):
    check_web(web)
    check_wishes(web, wishes)


def check_pairs(pairs):
    if not is_pairs(pairs):
        raise InvalidPairs(pairs)


def check_place(web, place):
    """A place of a web that is one."""
    if not is_within(place, 0, web[1] - 1):
        raise InvalidPlace(place)


def check_two(web, one, other):
    """Two unlike places of any web."""
    check_web(web)
    check_place(web, one)
    check_place(web, other)
    if one == other:
        raise InvalidPlace(other)


def made_rows(rows):
    """Rows told in any sequence and either way round, as they are made; none if they are no such rows at all."""
    if not is_listed(rows) or not all([is_tuple_of(row, 3) and are_integers(row) for row in rows]):
        return ()
    return tuple(sorted([(min(one, other), max(one, other), much) for one, other, much in rows]))


def made_web(many, ties):
    """The web of so many places, its ties told in any sequence and either way round."""
    if not is_within(many, 2, MOST_PLACES):
        raise InvalidMany(many)
    web = ("web", many, made_rows(ties))
    if not is_web(web):
        raise InvalidTies(ties)
    return web


def made_wishes(rows):
    """The wishes, told in any sequence and either way round."""
    wishes = made_rows(rows)
    if not is_wishes(wishes):
        raise InvalidRows(rows)
    return wishes


def room_between(web, one, other):
    """The room of their tie, 0 without one."""
    check_web(web)
    check_place(web, one)
    check_place(web, other)
    return sum([tie[2] for tie in web[2] if far_end(tie, one) == other])


def neighbours(web, place):
    """The rising list of the places tied to the place."""
    check_web(web)
    check_place(web, place)
    return ends_at(web[2], place)


def summed_at(rows, place):
    return sum([row[2] for row in rows if place in row[:2]])


def room_at(web, place):
    """The rooms of the place's ties, added up."""
    check_web(web)
    check_place(web, place)
    return summed_at(web[2], place)


def wish_at(web, wishes, place):
    """The wishes of the place's pairs, added up."""
    check_traffic(web, wishes)
    check_place(web, place)
    return summed_at(wishes, place)


def pairs_of(wishes):
    if not is_wishes(wishes):
        raise InvalidWishes(wishes)
    return tuple([wish[:2] for wish in wishes])


def members_of(pairs):
    """The rising list of the places that the pairs have."""
    return sorted(set([place for pair in pairs for place in pair]))


def is_order(web, value):
    """Whether any value is a list with each place of the web once."""
    return is_listed(value) and are_integers(value) and sorted(value) == list(range(web[1]))


def renumbered(web, wishes, order):
    """The tuple of both, with what was the order's entry p as the place p."""
    check_traffic(web, wishes)
    if not is_order(web, order):
        raise InvalidOrder(order)
    later = {place: position for position, place in enumerate(order)}
    ties = made_rows([(later[one], later[other], room) for one, other, room in web[2]])
    asked = made_rows([(later[one], later[other], wish) for one, other, wish in wishes])
    return (("web", web[1], ties), asked)
