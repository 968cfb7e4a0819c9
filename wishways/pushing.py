"""Flows of one pair, unchecked: grown as far as they go, and parted into ways."""

from wishways.links import far_end
from wishways.ways import signed_steps


def open_way(web, spare, one, other):
    """A way from one to other with something spare at each step, () without one.

    Spare has for each tie a tuple: towards its greater place, towards its lesser one.
    """
    came = {one: None}
    ahead = [one]
    while ahead:
        place = ahead.pop(0)
        for tie, (forth, back) in zip(web[2], spare):
            far = far_end(tie, place)
            if far is None or far in came or (forth if place < far else back) <= 0:
                continue
            came[far] = place
            ahead.append(far)
    return led_back(came, other)


def led_back(came, other):
    if other not in came:
        return ()
    way = [other]
    while came[way[-1]] is not None:
        way.append(came[way[-1]])
    return tuple(way[::-1])


def more_away(web, flow, place):
    """How much more goes away from the place than comes to it."""
    away = sum([much for tie, much in zip(web[2], flow) if tie[0] == place])
    return away - sum([much for tie, much in zip(web[2], flow) if tie[1] == place])


def left_open(web, flow):
    """What each tie's room lets go beyond the flow, either way; what comes the other way can be sent back, too."""
    return [(tie[2] - much, tie[2] + much) for tie, much in zip(web[2], flow)]


def grown_flow(web, one, other):
    """A greatest flow from one to other, a list."""
    flow = [0 for _ in web[2]]
    way = open_way(web, left_open(web, flow), one, other)
    while way:
        steps = signed_steps(web, way)
        much = min([web[2][at][2] - sign * flow[at] for at, sign in steps])
        for at, sign in steps:
            flow[at] += sign * much
        way = open_way(web, left_open(web, flow), one, other)
    return flow


def parted(web, flow, one, other):
    """The list of tuples (way, much) into which a flow is parted, no way twice.

    What goes round in it is left out; but by rounds through one or other the ways may come to more than the value.
    """
    rest = list(flow)
    parts = []
    way = open_way(web, [(much, -much) for much in rest], one, other)
    while way:
        steps = signed_steps(web, way)
        # All of some tie's rest goes with it, so the way never comes again.
        most = min([sign * rest[at] for at, sign in steps])
        for at, sign in steps:
            rest[at] -= sign * most
        parts.append((way, most))
        way = open_way(web, [(much, -much) for much in rest], one, other)
    return parts


def at_most(parts, wish):
    """The parts, in their sequence, as far as they come to the wish; the last one perhaps lessened."""
    taken = []
    left = wish
    for way, much in parts:
        if left > 0:
            taken.append((way, min(much, left)))
            left -= much
    return taken
