"""Pairs at two hubs, and the two pairs that are made of them."""

from wishways.errors import NoHubs, TooMany
from wishways.pushing import at_most, grown_flow, parted
from wishways.ratios import reduced
from wishways.twopairs import led_two
from wishways.webs import MOST_PLACES, MOST_ROOM, MOST_TIES, check_pairs, check_traffic, members_of, pairs_of


def hubs_of(pairs):
    """The least tuple of two members of which each pair has one at least, None if there is none."""
    check_pairs(pairs)
    members = members_of(pairs)
    for one in members:
        for other in members:
            if one < other and all([one in pair or other in pair for pair in pairs]):
                return (one, other)
    return None


def checked_hubs(pairs):
    hubs = hubs_of(pairs)
    if hubs is None:
        raise NoHubs()
    return hubs


def parted_by_hub(rows, hub):
    """The tuple of two lists: the rows that begin with a pair of the hub, and the rest."""
    return ([row for row in rows if hub in row[:2]], [row for row in rows if hub not in row[:2]])


def hub_pairs(pairs):
    """The tuple of two sorted lists, the pairs of the first hub and those of the other one."""
    return parted_by_hub(pairs, checked_hubs(pairs)[0])


def made_of(web, wishes, hubs):
    """The tuple (made web, made wishes), however great."""
    place = web[1]
    ties, asked = list(web[2]), []
    for hub, rows in zip(hubs, parted_by_hub(wishes, hubs[0])):
        if rows:
            ties.extend([(one + other - hub, place, wish) for one, other, wish in rows])
            asked.append((hub, place, sum([wish for _, _, wish in rows])))
            place += 1
    return (("web", place, tuple(sorted(ties))), tuple(asked))


def hubs_of_wishes(web, wishes):
    check_traffic(web, wishes)
    return checked_hubs(pairs_of(wishes))


def made_two(web, wishes):
    """The tuple (made web, made wishes), one wish for each hub that has pairs."""
    made, asked = made_of(web, wishes, hubs_of_wishes(web, wishes))
    if made[1] > MOST_PLACES:
        raise TooMany("places", MOST_PLACES)
    if len(made[2]) > MOST_TIES:
        raise TooMany("ties", MOST_TIES)
    if any([wish > MOST_ROOM for _, _, wish in asked]):
        raise TooMany("wish", MOST_ROOM)
    return (made, asked)


def led_one(web, wish):
    """The list of tuples (way, ratio) in wholes that serve one wish, None if a greatest flow is less than it."""
    one, other, much = wish
    parts = at_most(parted(web, grown_flow(web, one, other), one, other), much)
    if sum([part for _, part in parts]) < much:
        return None
    return [(way, reduced(part, 1)) for way, part in parts]


def led_from_hub(way):
    """The way of the pair that a made way leads from its hub to the place ahead of the new one."""
    kept = way[:-1]
    return kept if kept[0] < kept[-1] else kept[::-1]


def plan_by_hubs(web, wishes):
    """A plan that fits and serves, in halves, in wholes if all is even; None if a cut is over-asked."""
    made, asked = made_of(web, wishes, hubs_of_wishes(web, wishes))
    parts = led_one(made, asked[0]) if len(asked) == 1 else led_two(made, asked)
    if parts is None:
        return None
    # Each made wish needs all the rooms at its new place, so nothing else leads through it.
    return tuple(sorted([(led_from_hub(way), ratio) for way, ratio in parts]))
