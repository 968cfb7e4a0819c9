"""Odd lots, least ones, heights and peaks: [151], [152], [154]."""

import unittest
from fractions import Fraction
from itertools import combinations

from samples import (BOTH, KITE, NOT_LENGTHS, NOT_LOTS, NOT_ODD_PLACES, NOT_PLACES, NOT_WEBS, SQUARE, STRANGE, TOUCHY, WHEEL, Numbers, plain_distance, ratio_of,
                     some_lengths, some_webs)
from wishways.errors import InvalidLengths, InvalidLot, InvalidPlace, InvalidPlaces, InvalidWeb
from wishways.oddlots import (all_odd_lots, exchanged, heights, is_odd_lot, is_places, least_lot, least_lot_length, lot_length, odd_in, peaks)


def some_odd(numbers, many):
    places = [place for place in range(many) if numbers.below(3)]
    return tuple(places[len(places) % 2:])


def plain_odd(web, lot):
    return tuple([place for place in range(web[1]) if len([at for at in lot if place in web[2][at][:2]]) % 2])


def plain_lots(web):
    """The dict of the sorted lists of all lots, by the places that are odd in them."""
    found = {}
    for many in range(len(web[2]) + 1):
        for lot in combinations(range(len(web[2])), many):
            found.setdefault(plain_odd(web, lot), []).append(lot)
    return {places: sorted(lots) for places, lots in found.items()}


def plain_least(web, lengths, places, lots):
    return min([sum([lengths[at] for at in lot]) for lot in lots[places]])


def pairings(places):
    if not places:
        return [[]]
    return [[(places[0], other)] + rest for other in places[1:] for rest in pairings([place for place in places[1:] if place != other])]


def changed(places, one, other):
    """By the words: left out if it is among them, put in if it isn't; by a place and itself they stay."""
    return tuple(sorted(set(places) ^ set([one, other] if one != other else [])))


SMALL = [web for web in some_webs(160, seed=621) if len(web[2]) <= 9]


class OddLots(unittest.TestCase):
    def test_151_places(self):
        for web in some_webs(30, seed=622):
            for many in range(web[1] + 1):
                for chosen in combinations(range(web[1]), many):
                    self.assertIs(is_places(web, chosen), many % 2 == 0)
        for value in NOT_ODD_PLACES:
            self.assertIs(is_places(KITE, value), False)
        self.assertIs(is_places(KITE, ()), True)

    def test_151_against_all_choices_of_ties(self):
        for web in SMALL:
            lots = plain_lots(web)
            self.assertEqual(len(lots), 2 ** (web[1] - 1))
            for places, wanted in lots.items():
                self.assertEqual(all_odd_lots(web, places), wanted)
                self.assertEqual(len(wanted), 2 ** (len(web[2]) - web[1] + 1))
                for other in list(lots)[:6]:
                    for lot in lots[other][:6]:
                        self.assertIs(is_odd_lot(web, places, lot), other == places)
                        self.assertEqual(odd_in(web, lot), other)
        self.assertGreater(len(SMALL), 60)

    def test_151_great_webs(self):
        numbers = Numbers(623)
        for web in some_webs(40, seed=624) + [WHEEL]:
            places = some_odd(numbers, web[1])
            lots = all_odd_lots(web, places)
            self.assertEqual([len(lots), lots], [2 ** (len(web[2]) - web[1] + 1), sorted(set(lots))])
            self.assertEqual({plain_odd(web, lot) for lot in lots}, {places})

    def test_151_lots_of_any_value(self):
        for value in NOT_LOTS:
            self.assertIs(is_odd_lot(KITE, (0, 3), value), False)
            self.assertIs(is_odd_lot(KITE, (), value), False)
        self.assertEqual([is_odd_lot(KITE, (), ()), is_odd_lot(KITE, (0, 3), ()), is_odd_lot(KITE, (0, 3), (0, 3)), is_odd_lot(KITE, (), (0, 1, 2))],
                         [True, False, True, True])


class LeastLots(unittest.TestCase):
    def test_152_least(self):
        numbers = Numbers(625)
        for web in SMALL:
            lots = plain_lots(web)
            for at in range(4):
                lengths, places = some_lengths(numbers, web, (1, 4, 50, 10 ** 12)[at]), some_odd(numbers, web[1])
                least = plain_least(web, lengths, places, lots)
                self.assertEqual(least_lot_length(web, lengths, places), least)
                lot = least_lot(web, lengths, places)
                self.assertIn(lot, lots[places])
                self.assertEqual([lot_length(web, lengths, lot), sum([lengths[tie] for tie in lot])], [least, least])
                sums = [sum([plain_distance(web, lengths, one, other) for one, other in pairs]) for pairs in pairings(list(places))]
                self.assertEqual(min(sums), least)

    def test_152_lengths_of_lots(self):
        numbers = Numbers(626)
        for web in some_webs(40, seed=627):
            lengths = some_lengths(numbers, web, 9)
            for _ in range(5):
                lot = tuple([at for at in range(len(web[2])) if numbers.below(2)])
                self.assertEqual(lot_length(web, lengths, lot), sum([lengths[at] for at in lot]))

    def test_152_by_hand(self):
        self.assertEqual([least_lot_length(SQUARE, (1, 5, 2, 0), places) for places in ((), (0, 1), (0, 2), (0, 3), (0, 1, 2, 3))], [0, 1, 3, 3, 1])
        self.assertEqual([least_lot(SQUARE, (1, 5, 2, 0), places) for places in ((), (0, 1), (0, 2), (0, 1, 2, 3))], [(), (0,), (0, 2), (0, 3)])
        self.assertEqual(least_lot_length(WHEEL, (1,) * 14, tuple(range(8))), 4)


class Heights(unittest.TestCase):
    def test_154_exchanged(self):
        numbers = Numbers(628)
        for web in some_webs(40, seed=629):
            places = some_odd(numbers, web[1])
            for place in range(web[1]):
                self.assertEqual(exchanged(web, places, place), changed(places, 0, place))
        self.assertEqual([exchanged(KITE, (), 0), exchanged(KITE, (), 2), exchanged(KITE, (0, 2), 2), exchanged(KITE, (1, 2), 2), exchanged(KITE, (0, 1), 2),
                          exchanged(KITE, (0, 1), 0)], [(), (0, 2), (), (0, 1), (1, 2), (0, 1)])

    def test_154_heights_and_peaks(self):
        numbers = Numbers(630)
        for web in SMALL:
            lots = plain_lots(web)
            for most in (1, 7, 10 ** 12):
                lengths, places = some_lengths(numbers, web, most), some_odd(numbers, web[1])
                least = plain_least(web, lengths, places, lots)
                tops = [plain_least(web, lengths, changed(places, 0, place), lots) - least for place in range(web[1])]
                self.assertEqual(heights(web, lengths, places), tops)
                told = [ratio_of(Fraction(length + tops[tie[0]] + tops[tie[1]], 2)) for tie, length in zip(web[2], lengths)]
                self.assertEqual(peaks(web, lengths, places), told)
                for tie, length, peak in zip(web[2], lengths, told):
                    one, other = tops[tie[0]], tops[tie[1]]
                    self.assertLessEqual(abs(one - other), length)
                    self.assertGreaterEqual(Fraction(*peak), max(one, other))

    def test_158_heights_of_four_places(self):
        tied = ("web", 4, ((0, 1, 1), (0, 2, 1), (0, 3, 1), (1, 2, 1), (1, 3, 1), (2, 3, 1)))
        self.assertEqual(heights(tied, (1,) * 6, (0, 1, 2, 3)), [0, -1, -1, -1])
        self.assertEqual(peaks(tied, (1,) * 6, (0, 1, 2, 3)), [(0, 1)] * 3 + [(-1, 2)] * 3)

    def test_154_without_odd_places_heights_are_distances(self):
        numbers = Numbers(631)
        for web in some_webs(40, seed=632):
            lengths = some_lengths(numbers, web, 20)
            self.assertEqual(heights(web, lengths, ()), [plain_distance(web, lengths, 0, place) for place in range(web[1])])


class Wrong(unittest.TestCase):
    def test_151_wrong(self):
        for value in NOT_WEBS:
            for function in (lambda web: is_places(web, ()), lambda web: odd_in(web, TOUCHY), lambda web: is_odd_lot(web, TOUCHY, ()),
                             lambda web: all_odd_lots(web, TOUCHY), lambda web: lot_length(web, TOUCHY, TOUCHY),
                             lambda web: least_lot_length(web, TOUCHY, TOUCHY), lambda web: least_lot(web, TOUCHY, TOUCHY),
                             lambda web: exchanged(web, TOUCHY, TOUCHY), lambda web: heights(web, TOUCHY, TOUCHY), lambda web: peaks(web, TOUCHY, TOUCHY)):
                with self.assertRaises(InvalidWeb) as caught:
                    function(value)
                self.assertIs(caught.exception.value, value)
        for value in NOT_LENGTHS:
            for function in (lot_length, least_lot_length, least_lot, heights, peaks):
                with self.assertRaises(InvalidLengths) as caught:
                    function(KITE, value, TOUCHY)
                self.assertIs(caught.exception.value, value)
        lengths = (1, 9, 1, 2, 0)
        for value in NOT_ODD_PLACES:
            for function in (lambda places: is_odd_lot(KITE, places, ()), lambda places: all_odd_lots(KITE, places), lambda places: heights(KITE, lengths, places),
                             lambda places: least_lot_length(KITE, lengths, places), lambda places: least_lot(KITE, lengths, places),
                             lambda places: exchanged(KITE, places, TOUCHY), lambda places: peaks(KITE, lengths, places)):
                with self.assertRaises(InvalidPlaces) as caught:
                    function(value)
                self.assertIs(caught.exception.value, value)
        for value in NOT_LOTS:
            for function in (lambda lot: odd_in(KITE, lot), lambda lot: lot_length(KITE, lengths, lot)):
                with self.assertRaises(InvalidLot) as caught:
                    function(value)
                self.assertIs(caught.exception.value, value)
        for value in NOT_PLACES + [4]:
            with self.assertRaises(InvalidPlace) as caught:
                exchanged(KITE, (0, 1), value)
            self.assertIs(caught.exception.value, value)

    def test_151_some_webs_of_the_samples(self):
        self.assertEqual(len(all_odd_lots(BOTH, (0, 1))), 4)
        self.assertEqual([type(value) for value in STRANGE if is_places(BOTH, value)], [tuple])


if __name__ == "__main__":
    unittest.main()
