"""Kinds of pairs: those for which cuts are enough, and what is bad in all others."""

from itertools import combinations

from wishways.fourplaces import are_good, four_of, ring_of
from wishways.hubs import hubs_of
from wishways.webs import check_pairs, members_of


def are_apart(pair, other):
    """Whether two pairs have no place in common."""
    return pair[0] not in other and pair[1] not in other


def apart_threes(pairs):
    """The sorted list of the tuples of three pairs, rising, each two of them apart."""
    check_pairs(pairs)
    rows = list(pairs)
    return [(one, two, three) for one, two, three in combinations(rows, 3)
            if are_apart(one, two) and are_apart(one, three) and are_apart(two, three)]


def sides_of(ring):
    """The rising tuple of the pairs of a ring of three."""
    one, two, three = ring
    return ((one, two), (one, three), (two, three))


def rings_of_three(pairs):
    """The sorted list of the tuples of three rising places of which each two are a pair."""
    check_pairs(pairs)
    members = members_of(pairs)
    return [ring for ring in combinations(members, 3) if all([side in pairs for side in sides_of(ring)])]


def besides(pairs):
    """The sorted list of the tuples (ring, pair) of a ring of three and a pair that has none of its places."""
    rings = rings_of_three(pairs)
    return [(ring, pair) for ring in rings for pair in pairs if pair[0] not in ring and pair[1] not in ring]


def good_kind(pairs):
    """The kind of good pairs, None of others."""
    told = (("hubs", hubs_of(pairs)), ("four", four_of(pairs)), ("ring", ring_of(pairs)))
    for kind in told:
        if kind[1] is not None:
            return kind
    return None


def kind_of(pairs):
    """The kind of the pairs, a tuple that begins with its word."""
    kind = good_kind(pairs)
    if kind is not None:
        return kind
    threes = apart_threes(pairs)
    return ("apart", threes[0]) if threes else ("beside",) + besides(pairs)[0]


def bad_parts(pairs):
    """The sorted list of the parts that are not good, while with any one of their pairs left out they are."""
    beside = [tuple(sorted(sides_of(ring) + (pair,))) for ring, pair in besides(pairs)]
    return sorted(apart_threes(pairs) + beside)


def good_parts(pairs):
    """The list of all parts that are good."""
    rows = list(pairs)
    parts = []
    for many in range(1, len(rows) + 1):
        parts.extend([part for part in combinations(rows, many) if are_good(part)])
    return parts


def greatest_good_parts(pairs):
    """The sorted list of the good parts that are no longer so with any further pair."""
    check_pairs(pairs)
    parts = good_parts(pairs)
    return sorted([part for part in parts if not any([is_wider(other, part) for other in parts])])


def is_wider(part, other):
    """Whether a part has all of the other one's pairs and one more."""
    return len(part) == len(other) + 1 and all([pair in part for pair in other])
