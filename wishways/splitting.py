"""Steps split off at inner places, until ways between marked places are left."""

from wishways.basics import is_rising, is_tuple_of, is_within
from wishways.errors import InvalidPlace, InvalidTies, NoTie, NotInner, NotInnerEven
from wishways.links import ends_at, far_end
from wishways.marks import check_marks, is_inner_even
from wishways.owncuts import least_own, own_cuts, own_rooms
from wishways.partings import is_across, sum_across
from wishways.webs import check_place, check_web, is_pair

MOST_SPLIT_ROOM = 300


def is_tie_with_room(web, value):
    """Whether any value is a tuple that may stand among ties with rooms between places of the web."""
    return is_tuple_of(value, 3) and is_pair(value, web[1]) and is_within(value[2], 1, MOST_SPLIT_ROOM)


def are_ties_with_rooms(web, value):
    """Whether any value is ties with rooms between places of the web."""
    if not isinstance(value, tuple) or not all([is_tie_with_room(web, tie) for tie in value]):
        return False
    return is_rising([tie[:2] for tie in value])


def check_step(web, ties, place, one, other):
    """Ties with rooms of a web that is one, a place, and two places unlike it."""
    if not are_ties_with_rooms(web, ties):
        raise InvalidTies(ties)
    check_place(web, place)
    for end in (one, other):
        check_place(web, end)
        if end == place:
            raise InvalidPlace(end)


def room_of_pair(ties, one, other):
    return sum([tie[2] for tie in ties if far_end(tie, one) == other])


def check_tied(ties, place, one, other):
    """There must be rooms for a step along both ties."""
    for end in (one, other):
        if room_of_pair(ties, place, end) == 0:
            raise NoTie(place, end)
    if one == other and room_of_pair(ties, place, one) == 1:
        raise NoTie(place, one)


def pair_of(one, other):
    return (min(one, other), max(one, other))


def without_step(ties, place, one, other):
    """The ties behind a step split off."""
    rooms = {tie[:2]: tie[2] for tie in ties}
    for end in (one, other):
        rooms[pair_of(place, end)] -= 1
    if one != other:
        pair = pair_of(one, other)
        rooms[pair] = rooms.get(pair, 0) + 1
    return tuple(sorted([pair + (room,) for pair, room in rooms.items() if room > 0]))


def split_off(web, ties, place, one, other):
    """The ties behind a step from one to other split off at the place."""
    check_web(web)
    check_step(web, ties, place, one, other)
    check_tied(ties, place, one, other)
    return without_step(ties, place, one, other)


def keeps_own(web, marks, ties, place, one, other):
    """Whether a step split off keeps the own rooms that the ties have."""
    check_marks(web, marks)
    check_step(web, ties, place, one, other)
    if place in marks:
        raise NotInner()
    check_tied(ties, place, one, other)
    after = without_step(ties, place, one, other)
    return own_rooms(web[1], after, marks) == own_rooms(web[1], ties, marks)


def most_cuts(web, marks):
    """The tuple of the least own cuts, in the marks' sequence."""
    check_marks(web, marks)
    return tuple([least_own(web[1], web[2], marks, place)[1] for place in marks])


class Laid:
    """Ways laid between places that are left, a list of tuples (way, much) for each pair, the lesser place first."""

    def __init__(self, web, marks):
        self.parts = {tie[:2]: [(tie[:2], tie[2])] for tie in web[2]}
        self.bounds = []
        for place in marks:
            room = least_own(web[1], web[2], marks, place)[0]
            self.bounds.extend([(cut, room) for cut in own_cuts(web[1], marks, place)])


def laid_ties(laid):
    """The list of the ties with rooms that the ways stand for."""
    return [pair + (sum([much for _, much in parts]),) for pair, parts in laid.parts.items()]


def most_split(laid, place, one, other):
    """How many steps from one to other can be split off at the place so that own rooms are kept."""
    ties = laid_ties(laid)
    most = min(room_of_pair(ties, place, one), room_of_pair(ties, place, other))
    if one == other:
        most //= 2
    # A step split off takes 2 from each cut that parts the place from both ends, and nothing from others.
    spare = [(sum_across(ties, cut) - room) // 2 for cut, room in laid.bounds
             if is_across(cut, (place, one)) and is_across(cut, (place, other))]
    return min([most] + spare)


def taken_out(laid, one, other, much):
    """Take out ways between the two that come to so much, and tell them, from one to other."""
    pair = pair_of(one, other)
    taken, left = [], []
    for way, most in laid.parts[pair]:
        part = min(most, much)
        much -= part
        if part > 0:
            taken.append((way if way[0] == one else way[::-1], part))
        if most > part:
            left.append((way, most - part))
    laid.parts[pair] = left
    return taken


def without_rounds(places):
    """The way that is left of places each tied to the one ahead, where what leads back to a place is left out."""
    way = []
    for place in places:
        way = way[:way.index(place)] + [place] if place in way else way + [place]
    return tuple(way)


def led_through(near, far):
    """The list of tuples (way, much) of ways to a place and ways on from it, which come to as much."""
    led = []
    while near:
        (way, much), (further, more) = near[0], far[0]
        part = min(much, more)
        led.append((without_rounds(way + further[1:]), part))
        near = near[1:] if much == part else [(way, much - part)] + near[1:]
        far = far[1:] if more == part else [(further, more - part)] + far[1:]
    return led


def split_at(laid, place, one, other):
    """Split off as many steps from one to other, which isn't less, at the place as can be."""
    much = most_split(laid, place, one, other)
    near = taken_out(laid, one, place, much)
    far = taken_out(laid, place, other, much)
    if one != other:
        laid.parts[(one, other)] = laid.parts.get((one, other), []) + led_through(near, far)


def split_all_at(laid, place):
    """Split off all steps at an inner place."""
    # What own cuts have to spare never grows, nor do ties at the place: no two ends need a second look.
    ends = ends_at(laid_ties(laid), place)
    for one in ends:
        for other in ends:
            if one <= other:
                split_at(laid, place, one, other)


def marked_plan(web, marks):
    """A mark plan that fits, worth half the sum of the own rooms, of an inner even web."""
    if not is_inner_even(web, marks):
        raise NotInnerEven()
    laid = Laid(web, marks)
    for place in range(web[1]):
        if place not in marks:
            split_all_at(laid, place)
    much = {}
    for parts in list(laid.parts.values()):
        for way, part in parts:
            much[way] = much.get(way, 0) + part
    return tuple(sorted(much.items()))
