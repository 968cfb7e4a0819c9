"""Lengths, what is spent and had, lengths of cuts: [8], [61], [64], [65]."""

import unittest

from samples import (BOTH, KITE, LEAST, LINE, NOT_CUTS, NOT_LENGTHS, RING, WHEEL, Numbers, plain_cuts, plain_distance, plain_had,
                     plain_length, plain_spent, plain_sum, plain_ways, some_lengths, some_traffic, some_webs, twos)
from wishways.cuts import slack
from wishways.distances import distances, lowered
from wishways.errors import InvalidCut, InvalidLengths, InvalidWay, InvalidWishes
from wishways.leastcuts import is_firm
from wishways.lengths import bars, had, is_lengths, length_of, lengths_of_cut, spent

FOUR = ((0, 1, 1), (2, 3, 1), (2, 4, 1), (3, 4, 1))
MOST = 10 ** 12


class IsLengths(unittest.TestCase):
    def test_8_from_0_to_the_most(self):
        for value in [(0,) * 5, (MOST,) * 5, (0, 1, 2, 3, MOST)]:
            self.assertIs(is_lengths(KITE, value), True)
        for at in range(5):
            for wrong in (-1, MOST + 1, 10 ** 39, True, False, None, "1", (1,)):
                self.assertIs(is_lengths(KITE, (1,) * at + (wrong,) + (1,) * (4 - at)), False)
        self.assertEqual([is_lengths(LEAST, (0,)), is_lengths(LEAST, ()), is_lengths(LEAST, (0, 0)), is_lengths(WHEEL, (7,) * 14)],
                         [True, False, False, True])

    def test_8_any_value(self):
        for value in NOT_LENGTHS:
            self.assertIs(is_lengths(KITE, value), False)
            for call in [(length_of, KITE, value, (0, 1)), (had, KITE, value), (spent, KITE, ((0, 1, 1),), value),
                         (bars, KITE, ((0, 1, 1),), value)]:
                with self.assertRaises(InvalidLengths) as caught:
                    call[0](*call[1:])
                self.assertIs(caught.exception.value, value)


class LengthOf(unittest.TestCase):
    def test_61_all_ways(self):
        numbers = Numbers(201)
        for web in [LEAST, LINE, RING, KITE, BOTH] + some_webs(14, seed=202):
            for most in (0, 1, 9, MOST):
                lengths = some_lengths(numbers, web, most)
                for one, other in twos(web[1]):
                    for way in plain_ways(web, one, other):
                        self.assertEqual(length_of(web, lengths, way), plain_length(web, lengths, way))

    def test_61_wrong_ways(self):
        for way in [(0, 3), (0,), (), [0, 1], (0, 1, 0), None, (0, True), (0, 4)]:
            with self.assertRaises(InvalidWay) as caught:
                length_of(KITE, (1,) * 5, way)
            self.assertIs(caught.exception.value, way)
        with self.assertRaises(InvalidLengths):
            length_of(KITE, (1,) * 4, (0, 3))


class SpentAndHad(unittest.TestCase):
    def test_64_by_adding_up(self):
        numbers = Numbers(203)
        told = []
        for web, wishes in some_traffic(84, seed=204):
            for most in (1, 3, 100, MOST):
                lengths = some_lengths(numbers, web, most)
                much, room = plain_spent(web, wishes, lengths), plain_had(web, lengths)
                self.assertEqual([spent(web, wishes, lengths), had(web, lengths)], [much, room])
                self.assertIs(bars(web, wishes, lengths), much > room)
                told.append(much > room)
        self.assertGreater(min(told.count(True), told.count(False)), 40)

    def test_64_as_much_as_there_is_does_not_bar(self):
        self.assertEqual([bars(LEAST, ((0, 1, 1),), (1,)), bars(LEAST, ((0, 1, 2),), (1,)), bars(LEAST, ((0, 1, 20),), (0,))],
                         [False, True, False])
        self.assertEqual([bars(LINE, ((0, 2, 3),), (1, 0)), bars(LINE, ((0, 2, 4),), (1, 0)), bars(LINE, ((0, 2, 4),), (0, 1))],
                         [False, True, False])
        self.assertEqual([spent(BOTH, FOUR, (1,) * 6), had(BOTH, (1,) * 6), bars(BOTH, FOUR, (1,) * 6)], [8, 6, True])
        self.assertEqual([spent(BOTH, FOUR[:3], (1,) * 6), bars(BOTH, FOUR[1:], (1,) * 6)], [6, False])

    def test_64_great_lengths(self):
        self.assertEqual([had(WHEEL, (MOST,) * 14), spent(LEAST, ((0, 1, 20),), (MOST,))], [79 * MOST, 20 * MOST])

    def test_64_wishes_ahead_of_lengths(self):
        for function in (spent, bars):
            with self.assertRaises(InvalidWishes):
                function(KITE, ((0, 4, 1),), None)


class OfCuts(unittest.TestCase):
    def test_65_all_cuts(self):
        for web, wishes in some_traffic(42, seed=205):
            for cut in plain_cuts(web[1]):
                lengths = lengths_of_cut(web, cut)
                self.assertEqual(lengths, tuple([1 if (one in cut) != (other in cut) else 0 for one, other, _ in web[2]]))
                self.assertEqual(had(web, lengths), plain_sum(web[2], cut))
                self.assertEqual(lowered(web, lengths), lengths)
                if slack(web, wishes, cut) < 0:
                    self.assertIs(bars(web, wishes, lengths), True)
                if is_firm(web, cut):
                    self.assertEqual(spent(web, wishes, lengths), plain_sum(wishes, cut))
                    self.assertIs(bars(web, wishes, lengths), slack(web, wishes, cut) < 0)
                rows = distances(web, lengths)
                for one, other in twos(web[1]):
                    self.assertGreaterEqual(rows[one][other], 1 if (one in cut) != (other in cut) else 0)

    def test_65_more_than_1_where_each_way_crosses_more_often(self):
        line = ("web", 4, ((0, 1, 1), (1, 2, 1), (2, 3, 1)))
        self.assertEqual(lengths_of_cut(line, (1, 3)), (1, 1, 1))
        self.assertEqual(plain_distance(line, (1, 1, 1), 0, 3), 3)
        self.assertEqual(spent(line, ((0, 3, 1),), lengths_of_cut(line, (1, 3))), 3)

    def test_65_wrong_cuts(self):
        for cut in NOT_CUTS + [(4,)]:
            with self.assertRaises(InvalidCut) as caught:
                lengths_of_cut(KITE, cut)
            self.assertIs(caught.exception.value, cut)


if __name__ == "__main__":
    unittest.main()
