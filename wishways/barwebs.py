"""Webs that bar: for all pairs but the good ones no cut is over-asked, and lengths bar the wishes."""

from wishways.basics import is_headed, is_same
from wishways.cuts import has_room_everywhere
from wishways.errors import GoodPairs
from wishways.kinds import kind_of, sides_of
from wishways.lengths import are_lengths, bars
from wishways.webs import is_traffic, made_rows, pairs_of

BAD_KINDS = ("apart", "beside")


def rows_apart(threes):
    """The tuple (ties, wishes) for three pairs that are apart, ties told by their two places alone."""
    (a, b), (c, d), (e, f) = threes
    ties = [(a, c), (a, d), (b, e), (b, f), (c, e), (c, f), (d, e), (d, f)]
    return (ties, [(a, b, 1), (c, d, 2), (e, f, 1)])


def rows_beside(ring, pair):
    """The tuple (ties, wishes) for a ring of three and a pair beside it, ties told by their two places alone."""
    ties = [(end, place) for end in pair for place in ring]
    return (ties, [side + (1,) for side in sides_of(ring) + (pair,)])


def bar_told(pairs):
    """The tuple (web, wishes, lengths) that is told for pairs that are not good."""
    kind = kind_of(pairs)
    if kind[0] not in BAD_KINDS:
        raise GoodPairs()
    told, asked = rows_apart(kind[1]) if kind[0] == "apart" else rows_beside(kind[1], kind[2])
    # The place to which all further places are tied begins the first tie.
    held = [place for tie in told for place in tie]
    many = max([other for _, other in pairs]) + 1
    further = [(told[0][0], place) for place in range(many) if place not in held]
    ties = made_rows([tie + (1,) for tie in told + further])
    lengths = tuple([1 if one in held and other in held else 0 for one, other, _ in ties])
    return (("web", many, ties), made_rows(asked), lengths)


def bar_traffic(pairs):
    """The tuple (web, wishes) in which no cut is over-asked, though the wishes are barred."""
    web, wishes, _ = bar_told(pairs)
    return (web, wishes)


def bar_lengths(pairs):
    """The lengths that bar them."""
    return bar_told(pairs)[2]


def enough(pairs):
    """A paper that tells whether cuts are enough for the pairs."""
    kind = kind_of(pairs)
    return ("bad",) + bar_told(pairs) if kind[0] in BAD_KINDS else ("good", kind)


def is_barred_with_room(pairs, web, wishes, lengths):
    """Whether any values are a web, wishes at the pairs alone, no cut over-asked, and lengths that bar them."""
    if not is_traffic(web, wishes) or not all([pair in pairs for pair in pairs_of(wishes)]):
        return False
    return has_room_everywhere(web, wishes) and are_lengths(web, lengths) and bars(web, wishes, lengths)


def is_enough(pairs, value):
    """Whether any value is a paper of the pairs."""
    kind = kind_of(pairs)
    if is_headed(value, "good", 2):
        return kind[0] not in BAD_KINDS and is_same(value[1], kind)
    return is_headed(value, "bad", 4) and is_barred_with_room(pairs, value[1], value[2], value[3])
