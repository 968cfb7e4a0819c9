"""Two wishes: served or barred by cuts alone, in halves, in wholes where all is even."""

from wishways.cuts import over_asked
from wishways.errors import InvalidTurning, NotTwo, OddPlace
from wishways.pushing import at_most, parted
from wishways.ratios import reduced
from wishways.turned import is_turned, turned_to
from wishways.webs import check_traffic, summed_at


def odd_of(web, wishes):
    """The rising list of the odd places of a web and wishes that are some."""
    return [place for place in range(web[1]) if (summed_at(web[2], place) + summed_at(wishes, place)) % 2 != 0]


def odd_places(web, wishes):
    """The rising list of the odd places."""
    check_traffic(web, wishes)
    return odd_of(web, wishes)


def is_even(web, wishes):
    return odd_places(web, wishes) == []


def check_both(web, wishes):
    """Two wishes of a web."""
    check_traffic(web, wishes)
    if len(wishes) != 2:
        raise NotTwo()


def with_wish(surplus, wish, sign):
    """The surplus with what a wish's places have, taken contrary by the sign -1."""
    made = list(surplus)
    made[wish[0]] += sign * wish[2]
    made[wish[1]] -= sign * wish[2]
    return made


def surpluses_of(many, wishes):
    """The tuple of the sum surplus and the difference surplus of two wishes among so many places."""
    first, second = wishes
    alone = with_wish([0 for _ in range(many)], first, 1)
    return (with_wish(alone, second, 1), with_wish(alone, second, -1))


def surpluses(web, wishes):
    """The tuple of the sum surplus and the difference surplus."""
    check_both(web, wishes)
    return surpluses_of(web[1], wishes)


def turnings_of(web, wishes):
    """The tuple of a turning of each surplus, None if there is none, of a web of whatever size and rooms."""
    both = tuple([turned_to(web, surplus) for surplus in surpluses_of(web[1], wishes)])
    return None if None in both else both


def both_turned(web, wishes):
    """The tuple of a turning of each surplus, None if some cut is over-asked."""
    check_both(web, wishes)
    odd = odd_of(web, wishes)
    if odd:
        raise OddPlace(odd[0])
    return turnings_of(web, wishes)


def parts_by(web, wishes, first, second):
    """The list of tuples (way, much) by which both wishes are led, by a turning of each surplus."""
    half = [(steps + other) // 2 for steps, other in zip(first, second)]
    rest = [(steps - other) // 2 for steps, other in zip(first, second)]
    parts = []
    for wish, flow in zip(wishes, (half, rest)):
        # A round in the flow may come by the wish's own place: then the ways come to more than the flow's value.
        parts.extend(at_most(parted(web, flow, wish[0], wish[1]), wish[2]))
    return parts


def plan_by(web, wishes, first, second):
    """A plan in wholes that fits and serves, by a turning of each surplus."""
    both = surpluses(web, wishes)
    for surplus, turning in zip(both, (first, second)):
        if not is_turned(web, surplus, turning):
            raise InvalidTurning(turning)
    return tuple(sorted([(way, (much, 1)) for way, much in parts_by(web, wishes, first, second)]))


def taken_times(rows, times):
    return tuple([(one, other, much * times) for one, other, much in rows])


def led_two(web, wishes):
    """The list of tuples (way, ratio) that serve two wishes, None if a cut bars them, however great the web and rooms.

    In wholes where all is even, in halves otherwise: twice the rooms and twice the wishes are even.
    """
    times = 2 if odd_of(web, wishes) else 1
    wide, asked = ("web", web[1], taken_times(web[2], times)), taken_times(wishes, times)
    both = turnings_of(wide, asked)
    if both is None:
        return None
    return [(way, reduced(much, times)) for way, much in parts_by(wide, asked, both[0], both[1])]


def two_answer(web, wishes):
    """("plan", plan) that fits and serves, or ("cut", cut) with the first one that is over-asked."""
    check_both(web, wishes)
    cuts = over_asked(web, wishes)
    if cuts:
        return ("cut", cuts[0])
    return ("plan", tuple(sorted(led_two(web, wishes))))
