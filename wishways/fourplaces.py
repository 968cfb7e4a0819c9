"""Pairs among four places or in a ring of five, good pairs, and their answers by cuts."""

from itertools import permutations

from wishways.basics import is_headed
from wishways.cuts import over_asked
from wishways.errors import NotGood
from wishways.hubs import hubs_of, plan_by_hubs
from wishways.papers import does_serve_well
from wishways.partings import is_cut
from wishways.plans import in_halves, in_wholes
from wishways.served import serving_plan
from wishways.twopairs import is_even
from wishways.webs import check_pairs, check_traffic, members_of, pairs_of


def four_of(pairs):
    """The rising tuple of the pairs' members if they are at most four, None otherwise."""
    check_pairs(pairs)
    members = tuple(members_of(pairs))
    return members if len(members) <= 4 else None


def are_neighbours(ring, pairs):
    """Whether each pair are two neighbours in the ring."""
    sides = [(min(one, other), max(one, other)) for one, other in zip(ring, ring[1:] + ring[:1])]
    return all([pair in sides for pair in pairs])


def ring_of(pairs):
    """The least ring of their five members in which each pair are neighbours, None if there is none."""
    check_pairs(pairs)
    members = members_of(pairs)
    if len(members) != 5:
        return None
    least, others = members[0], members[1:]
    for rest in permutations(others):
        ring = (least,) + rest
        if ring[1] < ring[-1] and are_neighbours(ring, pairs):
            return ring
    return None


def are_good(pairs):
    """Whether the pairs are at two hubs, lie among four places, or lie in a ring."""
    return hubs_of(pairs) is not None or four_of(pairs) is not None or ring_of(pairs) is not None


def check_good(web, wishes):
    check_traffic(web, wishes)
    if not are_good(pairs_of(wishes)):
        raise NotGood()


def told_by_cuts(web, wishes):
    """An answer by cuts to wishes of good pairs."""
    check_good(web, wishes)
    cuts = over_asked(web, wishes)
    if cuts:
        return ("cut", cuts[0])
    if hubs_of(pairs_of(wishes)) is not None:
        return ("plan", plan_by_hubs(web, wishes))
    return ("plan", serving_plan(web, wishes))


def is_plain_enough(web, wishes, plan):
    """Whether a plan is in halves, in wholes, where the wishes let it be so."""
    if hubs_of(pairs_of(wishes)) is None:
        return True
    return in_wholes(web, wishes, plan) if is_even(web, wishes) else in_halves(web, wishes, plan)


def is_by_cuts(web, wishes, value):
    """Whether any value is an answer by cuts to the wishes."""
    check_good(web, wishes)
    if is_headed(value, "plan", 2):
        return does_serve_well(web, wishes, value[1]) and is_plain_enough(web, wishes, value[1])
    if not is_headed(value, "cut", 2) or not is_cut(web, value[1]):
        return False
    return over_asked(web, wishes)[:1] == [value[1]]
