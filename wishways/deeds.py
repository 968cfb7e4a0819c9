"""Deeds of a desk, done to what is kept and what is claimed: each gives new dicts and leaves the old ones."""

from wishways.errors import InvalidRows, NoWish, NotTied
from wishways.webs import are_wishes, made_rows, made_web, renumbered


def others_than(rows, one, other):
    """The list of the ties, or of the wishes, but that of these two places."""
    return [row for row in rows if row[:2] not in ((one, other), (other, one))]


def tied(web, wishes, one, other, room):
    """The traffic with this room for the tie of the two."""
    return (made_web(web[1], others_than(web[2], one, other) + [(one, other, room)]), wishes)


def untied(web, wishes, one, other):
    """The traffic without the tie of the two."""
    left = others_than(web[2], one, other)
    if len(left) == len(web[2]):
        raise NotTied()
    return (made_web(web[1], left), wishes)


def with_wishes(web, rows):
    """The traffic with wishes told in any sequence and either way round."""
    wishes = made_rows(rows)
    if not are_wishes(web, wishes):
        raise InvalidRows(rows)
    return (web, wishes)


def wished(web, wishes, one, other, wish):
    """The traffic where the two wish so much."""
    return with_wishes(web, others_than(wishes, one, other) + [(one, other, wish)])


def unwished(web, wishes, one, other):
    """The traffic where the two wish nothing."""
    left = others_than(wishes, one, other)
    if len(left) == len(wishes):
        raise NoWish()
    return with_wishes(web, left)


def changed(word, web, wishes, numbers):
    """The traffic that a deed makes of another one."""
    if word == "tie":
        return tied(web, wishes, numbers[0], numbers[1], numbers[2])
    if word == "untie":
        return untied(web, wishes, numbers[0], numbers[1])
    if word == "wish":
        return wished(web, wishes, numbers[0], numbers[1], numbers[2])
    if word == "unwish":
        return unwished(web, wishes, numbers[0], numbers[1])
    return renumbered(web, wishes, numbers[0])


def without(table, key):
    return {name: told for name, told in table.items() if name != key}


def done(word, told, kept, claims):
    """The tuple (what is kept, what is claimed) behind a deed, by its word and what its parts tell."""
    if word == "forget":
        return (kept, without(claims, told[0]))
    if word == "claim":
        return (kept, {**claims, told[0]: (told[1], told[2])})
    if word == "drop":
        return (without(kept, told[0]), claims)
    if word == "traffic":
        return ({**kept, told[0]: told[1]}, claims)
    if word == "copy":
        return ({**kept, told[0]: kept[told[1]]}, claims)
    web, wishes = kept[told[0]]
    return ({**kept, told[0]: changed(word, web, wishes, told[1:])}, claims)
