"""Lots of ties in which told places are odd, least ones, and the heights and peaks that they tell."""

from wishways.basics import are_integers, is_rising
from wishways.errors import InvalidLot, InvalidPlaces
from wishways.lengths import check_lengths
from wishways.links import come_to
from wishways.marks import are_places_of
from wishways.measuring import distance_rows, least_shortest_way
from wishways.ratios import reduced
from wishways.ways import positions_along
from wishways.webs import check_place, check_web


def are_odd_places(web, value):
    """Whether any value is odd places of a web that is one."""
    return are_places_of(web, value) and len(value) % 2 == 0


def is_places(web, value):
    """Whether any value is odd places of the web."""
    check_web(web)
    return are_odd_places(web, value)


def check_odd_places(web, places):
    """Odd places of a web that is one."""
    if not are_odd_places(web, places):
        raise InvalidPlaces(places)


def check_measured(web, lengths, places):
    check_web(web)
    check_lengths(web, lengths)
    check_odd_places(web, places)


def is_lot(web, value):
    """Whether any value is a lot of a web that is one."""
    if not isinstance(value, tuple) or not are_integers(value) or not is_rising(value):
        return False
    return value == () or (value[0] >= 0 and value[-1] < len(web[2]))


def check_lot(web, lot):
    """A lot of a web that is one."""
    if not is_lot(web, lot):
        raise InvalidLot(lot)


def places_odd_in(web, lot):
    """The rising tuple of the places that an odd number of the lot's ties have."""
    ends = [place for at in lot for place in web[2][at][:2]]
    return tuple([place for place in range(web[1]) if ends.count(place) % 2 != 0])


def odd_in(web, lot):
    """The rising tuple of the places that are odd in the lot."""
    check_web(web)
    check_lot(web, lot)
    return places_odd_in(web, lot)


def is_odd_lot(web, places, value):
    """Whether any value is an odd lot for the places."""
    check_web(web)
    check_odd_places(web, places)
    return is_lot(web, value) and places_odd_in(web, value) == places


def in_just_one(row, other):
    """The rising tuple of what is in just one of two tuples."""
    return tuple(sorted([part for part in row if part not in other] + [part for part in other if part not in row]))


def base_rounds(web):
    """The list of lots, each a round of ties, of which all lots without odd places are made, each in one way."""
    rounds = []
    for at, tie in enumerate(web[2]):
        # The first round that each tie closes with those ahead of it.
        ahead = ("web", web[1], web[2][:at])
        if tie[1] in come_to(tie[0], ahead[2]):
            way = least_shortest_way(ahead, [1 for _ in range(at)], tie[0], tie[1])
            rounds.append(tuple(sorted(positions_along(ahead, way))) + (at,))
    return rounds


def lot_of_pairs(web, lengths, pairs):
    """The lot of the ties that are on an odd number of shortest ways of the pairs."""
    lot = ()
    for one, other in pairs:
        lot = in_just_one(lot, positions_along(web, least_shortest_way(web, lengths, one, other)))
    return lot


def all_odd_lots(web, places):
    """The sorted list of all odd lots for the places."""
    check_web(web)
    check_odd_places(web, places)
    pairs = list(zip(places[::2], places[1::2]))
    lots = [lot_of_pairs(web, [1 for _ in web[2]], pairs)]
    for ring in base_rounds(web):
        lots = lots + [in_just_one(lot, ring) for lot in lots]
    return sorted(lots)


def measured(lengths, lot):
    return sum([lengths[at] for at in lot])


def lot_length(web, lengths, lot):
    """The sum of the lengths of the lot's ties."""
    check_web(web)
    check_lengths(web, lengths)
    check_lot(web, lot)
    return measured(lengths, lot)


def least_pairing(rows, places):
    """The tuple (sum, pairs) of a parting of the places into pairs with the least sum of distances."""
    if len(places) == 0:
        return (0, ())
    found = []
    for at in range(1, len(places)):
        much, pairs = least_pairing(rows, places[1:at] + places[at + 1:])
        found.append((rows[places[0]][places[at]] + much, ((places[0], places[at]),) + pairs))
    return min(found)


def least_lot_length(web, lengths, places):
    """The length of a least lot for the places."""
    check_measured(web, lengths, places)
    return least_pairing(distance_rows(web, lengths), places)[0]


def least_lot(web, lengths, places):
    """An odd lot for the places of which none has less length."""
    check_measured(web, lengths, places)
    return lot_of_pairs(web, lengths, least_pairing(distance_rows(web, lengths), places)[1])


def exchanged_by(places, place):
    return places if place == 0 else in_just_one(places, (0, place))


def exchanged(web, places, place):
    """The odd places exchanged by the place 0 and this one."""
    check_web(web)
    check_odd_places(web, places)
    check_place(web, place)
    return exchanged_by(places, place)


def heights_of(web, lengths, places):
    rows = distance_rows(web, lengths)
    least = least_pairing(rows, places)[0]
    return [least_pairing(rows, exchanged_by(places, place))[0] - least for place in range(web[1])]


def heights(web, lengths, places):
    """The list, by places, of how much longer a least lot is, exchanged by the place 0 and this one."""
    check_measured(web, lengths, places)
    return heights_of(web, lengths, places)


def doubled_peaks(web, lengths, tops):
    """The list, by ties, of twice the peaks, by the heights."""
    return [tops[tie[0]] + tops[tie[1]] + length for tie, length in zip(web[2], lengths)]


def peaks(web, lengths, places):
    """The list, by ties, of half the sum of length and heights, a RATIO."""
    check_measured(web, lengths, places)
    return [reduced(twice, 2) for twice in doubled_peaks(web, lengths, heights_of(web, lengths, places))]
