"""Rows and common unders: [13], [14]."""

import math
import unittest
from fractions import Fraction

from samples import NOT_RATIO_LISTS, NOT_ROWS, STRANGE, Numbers
from wishways.errors import InvalidInteger, InvalidRatios, InvalidRow, NoQuotient, UnlikeLengths
from wishways.rows import (common_under, is_row, ratios_of, row_divisor, row_product, row_reduced, row_sum, row_taken,
                           whole_row)

GREAT = 10 ** 40 - 1
LONG = tuple(range(-20, 20))


def some_row(numbers, many):
    return tuple([numbers.below(2000) - 1000 for _ in range(many)])


class IsRow(unittest.TestCase):
    def test_13_rows(self):
        for value in [(0,), (1,), (-5, 0), LONG, (GREAT, -GREAT), (0,) * 40]:
            self.assertIs(is_row(value), True)

    def test_13_others(self):
        self.assertIs(is_row((0,) * 41), False)
        self.assertIs(is_row([0] * 3), False)
        self.assertIs(is_row((1, True)), False)
        for value in NOT_ROWS + STRANGE:
            self.assertIs(is_row(value), False)


class Products(unittest.TestCase):
    def test_13_products_and_sums(self):
        numbers = Numbers(3)
        for many in list(range(1, 41)):
            row, other = some_row(numbers, many), some_row(numbers, many)
            product = 0
            for at in range(many):
                product += row[at] * other[at]
                self.assertEqual(row_sum(row, other)[at], row[at] + other[at])
            self.assertEqual(row_product(row, other), product)
            self.assertEqual(len(row_sum(row, other)), many)

    def test_13_kinds(self):
        self.assertEqual(row_sum((1,), (2,)), (3,))
        self.assertEqual(row_product((GREAT,), (GREAT,)), GREAT * GREAT)

    def test_13_unlike_lengths(self):
        for row, other in [((1,), (1, 2)), ((1, 2), (1,)), (LONG, LONG[:39]), (LONG[1:], LONG)]:
            with self.assertRaises(UnlikeLengths):
                row_product(row, other)
            with self.assertRaises(UnlikeLengths):
                row_sum(row, other)

    def test_2_rows_are_checked_ahead_of_their_lengths(self):
        for function in (row_product, row_sum):
            with self.assertRaises(InvalidRow) as caught:
                function((1,), (1, True))
            self.assertEqual(caught.exception.value, (1, True))
            with self.assertRaises(InvalidRow) as caught:
                function((), (1, True))
            self.assertEqual(caught.exception.value, ())

    def test_13_taken(self):
        self.assertEqual([row_taken((3, 0, -1), 2), row_taken((3, 0, -1), -2), row_taken((3, 0, -1), 0), row_taken((4,), 1)],
                         [(6, 0, -2), (-6, 0, 2), (0, 0, 0), (4,)])
        self.assertEqual(row_taken(LONG, GREAT), tuple([number * GREAT for number in LONG]))
        with self.assertRaises(InvalidRow):
            row_taken((), True)
        with self.assertRaises(InvalidInteger):
            row_taken((1,), True)


class Divisors(unittest.TestCase):
    def test_13_divisor(self):
        numbers = Numbers(4)
        self.assertEqual([row_divisor((6, -9, 0)), row_divisor((0, 0)), row_divisor((0,)), row_divisor((-4,)),
                          row_divisor((7, 5)), row_divisor((0, -6)), row_divisor((0,) * 40)], [3, 0, 0, 4, 1, 6, 0])
        for _ in range(100):
            row = row_taken(some_row(numbers, 1 + numbers.below(5)), 1 + numbers.below(12))
            self.assertEqual(row_divisor(row), math.gcd(*row))

    def test_13_reduced(self):
        self.assertEqual([row_reduced((6, -9, 0)), row_reduced((0, 0)), row_reduced((0,)), row_reduced((-4,)),
                          row_reduced((7, 5)), row_reduced((-6, -4))],
                         [(2, -3, 0), (0, 0), (0,), (-1,), (7, 5), (-3, -2)])
        numbers = Numbers(5)
        for _ in range(100):
            row = row_taken(some_row(numbers, 1 + numbers.below(5)), 1 + numbers.below(12))
            self.assertEqual(row_taken(row_reduced(row), row_divisor(row)), row)
            self.assertIn(row_divisor(row_reduced(row)), (0, 1))


class Unders(unittest.TestCase):
    def test_14_common_under(self):
        for ratios, under in [([(1, 2), (-2, 3)], 6), ([(4, 1)], 1), ([(0, 1)], 1), ([(1, 4), (1, 6)], 12),
                              ([(1, 6), (5, 6)], 6), ([(1, number) for number in range(1, 11)], 2520)]:
            self.assertEqual(common_under(ratios), under)

    def test_14_least(self):
        numbers = Numbers(6)
        for _ in range(60):
            fractions = [Fraction(numbers.below(40) - 20, 1 + numbers.below(12)) for _ in range(1 + numbers.below(4))]
            ratios = [(fraction.numerator, fraction.denominator) for fraction in fractions]
            least = 1
            while any([(fraction * least).denominator != 1 for fraction in fractions]):
                least += 1
            self.assertEqual(common_under(ratios), least)
            self.assertEqual(whole_row(ratios), (tuple([int(fraction * least) for fraction in fractions]), least))

    def test_14_whole_row_and_back(self):
        ratios = [(1, 2), (-2, 3), (4, 1), (0, 1)]
        self.assertEqual(whole_row(ratios), ((3, -4, 24, 0), 6))
        self.assertEqual(ratios_of(*whole_row(ratios)), tuple(ratios))
        self.assertIs(type(whole_row(ratios)), tuple)
        self.assertEqual(whole_row([(1, 2)] * 40), ((1,) * 40, 2))

    def test_14_ratios_of(self):
        self.assertEqual(ratios_of((3, -4, 24, 0), 6), ((1, 2), (-2, 3), (4, 1), (0, 1)))
        self.assertEqual(ratios_of((3, -4, 0), -6), ((-1, 2), (2, 3), (0, 1)))
        self.assertEqual(ratios_of((GREAT,), GREAT), ((1, 1),))
        with self.assertRaises(NoQuotient):
            ratios_of((1, 2), 0)
        with self.assertRaises(InvalidRow):
            ratios_of((), 0)

    def test_14_wrong_lists(self):
        for value in NOT_RATIO_LISTS:
            for function in (common_under, whole_row):
                with self.assertRaises(InvalidRatios) as caught:
                    function(value)
                self.assertIs(caught.exception.value, value)


if __name__ == "__main__":
    unittest.main()
