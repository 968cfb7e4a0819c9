"""Distances, shortest ways, lowered lengths, distance tables: [61], [62], [63]."""

import unittest
from itertools import product

from samples import (BOTH, KITE, LEAST, LINE, NOT_DISTANCES, NOT_LENGTHS, RING, WHEEL, Numbers, plain_distance, plain_length, plain_ways,
                     some_lengths, some_traffic, some_webs, twos)
from wishways.distances import distances, is_distance_table, is_tight, lowered, shortest_way
from wishways.errors import InvalidLengths, InvalidPlace
from wishways.lengths import bars

WEBS = [LEAST, LINE, RING, KITE, BOTH] + some_webs(28, seed=211)
MOST, FURTHEST = 10 ** 12, 10 ** 14


class Distances(unittest.TestCase):
    def test_61_by_all_ways(self):
        numbers = Numbers(212)
        for web in WEBS:
            for most in (0, 1, 2, 9, MOST):
                lengths = some_lengths(numbers, web, most)
                rows = distances(web, lengths)
                self.assertEqual(rows, [[plain_distance(web, lengths, one, other) for other in range(web[1])] for one in range(web[1])])
                self.assertIs(is_distance_table(rows), True)

    def test_61_least_shortest_way_by_all_ways(self):
        numbers = Numbers(213)
        for web in WEBS:
            for most in (0, 1, 2, 9, MOST):
                lengths = some_lengths(numbers, web, most)
                for one, other in twos(web[1]):
                    ways = [(plain_length(web, lengths, way), way) for way in plain_ways(web, one, other)]
                    self.assertEqual(shortest_way(web, lengths, one, other), min(ways)[1])

    def test_61_all_lengths_of_the_kite_up_to_1(self):
        for lengths in product((0, 1), repeat=5):
            for one, other in twos(4):
                ways = [(plain_length(KITE, lengths, way), way) for way in plain_ways(KITE, one, other)]
                self.assertEqual(shortest_way(KITE, lengths, one, other), min(ways)[1])

    def test_61_lengths_of_0(self):
        self.assertEqual(shortest_way(WHEEL, (0,) * 14, 0, 7), min(plain_ways(WHEEL, 0, 7)))
        self.assertEqual(shortest_way(WHEEL, (0,) * 14, 7, 0), min(plain_ways(WHEEL, 7, 0)))
        self.assertEqual(shortest_way(RING, (0, 0, 0, 0), 0, 3), (0, 1, 2, 3))
        self.assertEqual(shortest_way(RING, (0, 0, 0, 1), 0, 3), (0, 3))
        self.assertEqual(distances(RING, (0,) * 4), [[0] * 4] * 4)

    def test_61_furthest(self):
        line = ("web", 8, tuple([(place, place + 1, 1) for place in range(7)]))
        self.assertEqual(distances(line, (MOST,) * 7)[0], [place * MOST for place in range(8)])
        self.assertEqual(shortest_way(line, (MOST,) * 7, 7, 0), tuple(range(7, -1, -1)))

    def test_61_wrong_places_and_lengths(self):
        for one, other, value in [(2, 2, 2), (4, 4, 4), (True, 2, True), (0, 4, 4), (0, None, None), (0, 0, 0)]:
            with self.assertRaises(InvalidPlace) as caught:
                shortest_way(KITE, (1,) * 5, one, other)
            self.assertIs(caught.exception.value, value)
        for value in NOT_LENGTHS:
            for call in [(distances,), (lowered,), (is_tight,)]:
                with self.assertRaises(InvalidLengths) as caught:
                    call[0](KITE, value)
                self.assertIs(caught.exception.value, value)
            with self.assertRaises(InvalidLengths):
                shortest_way(KITE, value, 9, 9)


class Lowered(unittest.TestCase):
    def test_63_distances_of_the_ties(self):
        numbers = Numbers(214)
        told = []
        for web in WEBS:
            for most in (1, 2, 9, MOST):
                lengths = some_lengths(numbers, web, most)
                low = lowered(web, lengths)
                self.assertEqual(low, tuple([plain_distance(web, lengths, one, other) for one, other, _ in web[2]]))
                self.assertIs(is_tight(web, lengths), low == lengths)
                self.assertIs(is_tight(web, low), True)
                self.assertEqual(distances(web, low), distances(web, lengths))
                told.append(low == lengths)
        self.assertGreater(min(told.count(True), told.count(False)), 10)

    def test_63_bars_whatever_the_lengths_bar(self):
        numbers = Numbers(215)
        barred = 0
        for web, wishes in some_traffic(70, seed=216):
            for most in (1, 5, 90):
                lengths = some_lengths(numbers, web, most)
                if bars(web, wishes, lengths):
                    self.assertIs(bars(web, wishes, lowered(web, lengths)), True)
                    barred += 1
        self.assertGreater(barred, 20)

    def test_63_edges(self):
        ring = ("web", 4, ((0, 1, 1), (0, 3, 1), (1, 2, 1), (2, 3, 1)))
        self.assertEqual([lowered(ring, (1, 9, 1, 2)), is_tight(ring, (1, 9, 1, 2)), is_tight(ring, (1, 4, 1, 2)), is_tight(ring, (1, 5, 1, 2))],
                         [(1, 4, 1, 2), False, True, False])
        self.assertEqual([is_tight(ring, (0,) * 4), is_tight(LEAST, (MOST,)), lowered(LEAST, (MOST,))], [True, True, (MOST,)])


class DistanceTables(unittest.TestCase):
    def test_62_all_small_tables(self):
        for numbers in product((0, 1, 2, 3), repeat=3):
            one, two, three = numbers
            table = [[0, one, two], [one, 0, three], [two, three, 0]]
            self.assertIs(is_distance_table(table), one + two + three >= 2 * max(numbers))

    def test_62_sizes_and_furthest(self):
        for many in range(10):
            self.assertIs(is_distance_table([[0] * many for _ in range(many)]), 2 <= many <= 8)
        self.assertIs(is_distance_table([[0, FURTHEST], [FURTHEST, 0]]), True)
        self.assertIs(is_distance_table([[0, FURTHEST + 1], [FURTHEST + 1, 0]]), False)

    def test_62_one_number_otherwise(self):
        rows = distances(WHEEL, tuple(range(5, 19)))
        self.assertIs(is_distance_table(rows), True)
        for one in range(8):
            for other in range(8):
                for wrong in (rows[one][other] + 1, -1, True, None, (1,), "0"):
                    changed = [list(row) for row in rows]
                    changed[one][other] = wrong
                    self.assertIs(is_distance_table(changed), False)

    def test_62_by_way_of_each_third_place(self):
        for by in range(1, 7):
            table = [[0 if one == other else 2 for other in range(8)] for one in range(8)]
            for end in (0, 7):
                table[end][by] = table[by][end] = 1
            self.assertIs(is_distance_table(table), True)
            table[0][7] = table[7][0] = 3
            self.assertIs(is_distance_table(table), False)

    def test_62_any_value(self):
        for value in NOT_DISTANCES:
            self.assertIs(is_distance_table(value), False)
        for value in [[[0, 1], [1, 0]], ([0, 1], [1, 0]), ((0, 1), (1, 0)), [(0, 1), [1, 0]]]:
            self.assertIs(is_distance_table(value), True)

    def test_62_nowhere_less_than_any_other(self):
        numbers = Numbers(217)
        for _ in range(200):
            lengths = some_lengths(numbers, KITE, 4)
            rows = distances(KITE, lengths)
            other = distances(KITE, some_lengths(numbers, KITE, 4))
            if all([other[one][end] <= length for (one, end, _), length in zip(KITE[2], lengths)]):
                self.assertTrue(all([other[one][end] <= rows[one][end] for one, end in twos(4)]))


if __name__ == "__main__":
    unittest.main()
