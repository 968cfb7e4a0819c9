"""Cuts with an odd number of told places, and packings of them, worth as much as a least lot is long."""

from wishways.amounts import is_above_none, is_at_most, summed
from wishways.basics import is_rising, is_tuple_of
from wishways.errors import InvalidPacking
from wishways.leastcuts import of_least_room
from wishways.lengths import check_lengths
from wishways.links import come_to
from wishways.oddlots import base_rounds, check_measured, check_odd_places, doubled_peaks, heights_of, is_odd_lot
from wishways.oddlots import measured
from wishways.partings import cuts_of_many, is_across, is_cut
from wishways.ratios import is_ratio, reduced
from wishways.webs import check_web


def has_odd_number(places, cut):
    return len([place for place in places if place in cut]) % 2 != 0


def is_odd_cut(web, places, value):
    """Whether any value is an odd cut for the places."""
    check_web(web)
    check_odd_places(web, places)
    return is_cut(web, value) and has_odd_number(places, value)


def odd_cuts(web, places):
    """The sorted list of the odd cuts for the places."""
    check_web(web)
    check_odd_places(web, places)
    return [cut for cut in cuts_of_many(web[1]) if has_odd_number(places, cut)]


def least_odd_cut(web, places):
    """The first odd cut of which none has less room, None for no places."""
    cuts = odd_cuts(web, places)
    return of_least_room(web, cuts)[0] if cuts else None


def is_packed(web, places, value):
    """Whether any value is a tuple of an odd cut and a ratio above 0."""
    if not is_tuple_of(value, 2) or not is_cut(web, value[0]) or not has_odd_number(places, value[0]):
        return False
    return is_ratio(value[1]) and is_above_none(value[1])


def packed_over(packing, tie):
    """The sum of the ratios of the cuts that the tie crosses."""
    return summed([ratio for cut, ratio in packing if is_across(cut, tie)])


def is_packing(web, lengths, places, value):
    """Whether any value is a packing."""
    check_measured(web, lengths, places)
    if not isinstance(value, tuple) or not all([is_packed(web, places, part) for part in value]):
        return False
    if not is_rising([cut for cut, _ in value]):
        return False
    return all([is_at_most(packed_over(value, tie), (length, 1)) for tie, length in zip(web[2], lengths)])


def worth_of_packing(packing):
    return summed([ratio for _, ratio in packing])


def packing_worth(web, lengths, places, packing):
    """The sum of the packing's ratios."""
    if not is_packing(web, lengths, places, packing):
        raise InvalidPacking(packing)
    return worth_of_packing(packing)


def shores_at(level, tops, links):
    """The list of the shores where the places stand whose height is at most the level, together by the links."""
    shores = []
    left = [place for place, top in enumerate(tops) if top <= level]
    while left:
        lot = come_to(left[0], links)
        left = [place for place in left if place not in lot]
        if 0 not in lot:
            shores.append(tuple(lot))
    return shores


def level_packing(web, lengths, places):
    """The packing of the shores at all levels."""
    check_measured(web, lengths, places)
    # Heights, peaks and levels are all told twice as great, so that they are whole.
    single = heights_of(web, lengths, places)
    summits = doubled_peaks(web, lengths, single)
    tops = [2 * top for top in single]
    levels = sorted(set(tops + summits))
    much = {}
    for level, later in zip(levels, levels[1:]):
        links = [tie for tie, summit in zip(web[2], summits) if summit <= level]
        for shore in shores_at(level, tops, links):
            much[shore] = much.get(shore, 0) + later - level
    return tuple(sorted([(shore, reduced(twice, 2)) for shore, twice in much.items()]))


def are_best(web, lengths, places, lot, packing):
    """Whether any values are an odd lot and a packing, and its length and its worth are equal."""
    if not is_packing(web, lengths, places, packing) or not is_odd_lot(web, places, lot):
        return False
    return worth_of_packing(packing) == (measured(lengths, lot), 1)


def has_even_rounds(web, lengths):
    """Whether each round of ties has an even length."""
    check_web(web)
    check_lengths(web, lengths)
    # What is common to two rounds counts twice: all rounds are even if those are of which they are made.
    return all([measured(lengths, ring) % 2 == 0 for ring in base_rounds(web)])
