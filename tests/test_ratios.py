"""Ratios and their texts: [5], [11], [12]."""

import unittest
from fractions import Fraction

from samples import NOT_RATIOS, NOT_TEXTS, STRANGE, Numbers
from wishways.errors import BadText, InvalidInteger, InvalidRatio, InvalidText, NoQuotient
from wishways.ratios import (ceiling_of, compared, floor_of, is_ratio, made, minus, over, parse_ratio, plus, ratio_text,
                             times)

GREAT = 10 ** 40 - 1
SOME = [(0, 1), (1, 1), (-1, 1), (1, 2), (-1, 2), (2, 3), (-7, 2), (7, 2), (9, 7), (-9, 7), (40, 1), (1, 40),
        (GREAT, 10 ** 39), (-GREAT, 7), (1, GREAT), (10 ** 39, 1)]


def ratio(fraction):
    return (fraction.numerator, fraction.denominator)


class IsRatio(unittest.TestCase):
    def test_5_ratios(self):
        for value in SOME:
            self.assertIs(is_ratio(value), True, value)

    def test_5_others(self):
        for value in NOT_RATIOS + STRANGE:
            self.assertIs(is_ratio(value), False, repr(type(value)))


class Sums(unittest.TestCase):
    def test_11_made(self):
        for number in [0, 1, -1, 6, -6, 12, 35, -35, GREAT, -GREAT]:
            for under in [1, -1, 2, -2, 4, -4, 35, -70, GREAT, -GREAT]:
                self.assertEqual(made(number, under), ratio(Fraction(number, under)))

    def test_11_made_edges(self):
        self.assertEqual([made(0, 5), made(0, -5), made(6, 3), made(6, -4), made(-6, -4)],
                         [(0, 1), (0, 1), (2, 1), (-3, 2), (3, 2)])

    def test_11_made_by_0(self):
        for number in [0, 1, -3, GREAT]:
            with self.assertRaises(NoQuotient):
                made(number, 0)

    def test_2_made_first_error(self):
        for number, under, value in [(True, 0, True), (None, None, None), (False, 1, False)]:
            with self.assertRaises(InvalidInteger) as caught:
                made(number, under)
            self.assertIs(caught.exception.value, value)

    def test_11_sums_differences_products_quotients(self):
        for near in SOME:
            for far in SOME:
                one, other = Fraction(*near), Fraction(*far)
                self.assertEqual(plus(near, far), ratio(one + other))
                self.assertEqual(minus(near, far), ratio(one - other))
                self.assertEqual(times(near, far), ratio(one * other))
                if far != (0, 1):
                    self.assertEqual(over(near, far), ratio(one / other))

    def test_11_results_are_ratios(self):
        for near in SOME:
            for far in SOME:
                for result in (plus(near, far), minus(near, far), times(near, far)):
                    self.assertIs(is_ratio(result), True)

    def test_11_quotient_by_0(self):
        for near in SOME:
            with self.assertRaises(NoQuotient):
                over(near, (0, 1))

    def test_2_ratios_are_checked_ahead_of_the_quotient(self):
        with self.assertRaises(InvalidRatio) as caught:
            over((2, 4), (0, 1))
        self.assertEqual(caught.exception.value, (2, 4))
        with self.assertRaises(InvalidRatio) as caught:
            over((1, 2), (0, 2))
        self.assertEqual(caught.exception.value, (0, 2))

    def test_11_less(self):
        for near in SOME:
            for far in SOME:
                one, other = Fraction(*near), Fraction(*far)
                self.assertEqual(compared(near, far), -1 if one < other else 1 if other < one else 0)

    def test_11_floor_and_ceiling(self):
        for value in SOME:
            fraction = Fraction(*value)
            self.assertLessEqual(floor_of(value), fraction)
            self.assertGreater(floor_of(value) + 1, fraction)
            self.assertGreaterEqual(ceiling_of(value), fraction)
            self.assertLess(ceiling_of(value) - 1, fraction)
        self.assertEqual([floor_of((-7, 2)), ceiling_of((-7, 2)), floor_of((7, 2)), ceiling_of((7, 2))], [-4, -3, 3, 4])
        self.assertEqual([floor_of((-4, 1)), ceiling_of((-4, 1)), floor_of((0, 1)), ceiling_of((0, 1))], [-4, -4, 0, 0])


class Texts(unittest.TestCase):
    def test_12_written(self):
        self.assertEqual([ratio_text((0, 1)), ratio_text((5, 1)), ratio_text((-5, 1)), ratio_text((1, 2)),
                          ratio_text((-3, 2)), ratio_text((10, 1)), ratio_text((100, 101))],
                         ["0", "5", "-5", "1/2", "-3/2", "10", "100/101"])

    def test_12_great_numbers(self):
        nines = 10 ** 400 - 1
        for number in [10 ** 59, 10 ** 60 - 1, 10 ** 60, 10 ** 60 + 7, 10 ** 120, 10 ** 121 + 10 ** 60, nines, -nines]:
            self.assertEqual(ratio_text((number, 1)), str(number))
            self.assertEqual(parse_ratio(str(number)), (number, 1))
        self.assertEqual(ratio_text((1, nines)), "1/" + "9" * 400)
        self.assertEqual(ratio_text((10 ** 6000, 1)), "1" + "0" * 6000)

    def test_12_read(self):
        for text, value in [("0", (0, 1)), ("-0", (0, 1)), ("4/2", (2, 1)), ("-4/2", (-2, 1)), ("7", (7, 1)), ("-7", (-7, 1)),
                            ("0/5", (0, 1)), ("-0/5", (0, 1)), ("1/10", (1, 10)), ("100/1", (100, 1)), ("6/4", (3, 2)),
                            ("-6/4", (-3, 2)), ("10203040506070809", (10203040506070809, 1)), ("5/5", (1, 1))]:
            self.assertEqual(parse_ratio(text), value, text)

    def test_12_what_is_written_is_read(self):
        for value in SOME:
            self.assertEqual(parse_ratio(ratio_text(value)), value)

    def test_12_wrong_places(self):
        for text, position in [("", 0), ("-", 1), ("--1", 1), ("+1", 0), (" 1", 0), ("1 ", 1), ("- 1", 1), ("00", 1),
                               ("01", 1), ("-00", 2), ("-01", 2), ("a", 0), ("1a", 1), ("1.5", 1), ("1/", 2), ("-1/", 3),
                               ("1/0", 2), ("1/00", 2), ("1/05", 2), ("1/-2", 2), ("1/ 2", 2), ("1 /2", 1), ("/2", 0),
                               ("-/2", 1), ("1/2/3", 3), ("1/2 ", 3), ("1/2x", 3), ("12/34x", 5), ("1//2", 2), ("1\n", 1),
                               ("1/2\n", 3), ("\n", 0), ("1_0", 1), ("0x1", 1), ("0/0", 2), ("0-1", 1), ("1-", 1),
                               ("0/", 2), ("1/2-", 3), ("(1, 2)", 0), (":", 0), ("1/:", 2), ("5:", 1)]:
            with self.assertRaises(BadText, msg=text) as caught:
                parse_ratio(text)
            self.assertEqual(caught.exception.position, position, text)

    def test_12_sign_by_sign(self):
        # A text is wrong at the first place that no text that is read goes on with.
        signs = "-/01 x"
        texts = [""]
        for _ in range(4):
            texts = texts + [text + sign for text in texts if len(text) == len(texts[-1]) for sign in signs]
        for text in texts:
            place = self.wrong_place(text)
            if place is None:
                number, _, under = text.partition("/")
                self.assertEqual(parse_ratio(text), ratio(Fraction(int(number), int(under or "1"))))
            else:
                with self.assertRaises(BadText, msg=text) as caught:
                    parse_ratio(text)
                self.assertEqual(caught.exception.position, place, text)

    def wrong_place(self, text):
        """By the states of a reader that takes sign by sign."""
        follow = {"begin": {"-": "minus", "0": "zero", "1": "digits"}, "minus": {"0": "zero", "1": "digits"},
                  "zero": {"/": "slash"}, "digits": {"0": "digits", "1": "digits", "/": "slash"}, "slash": {"1": "under"},
                  "under": {"0": "under", "1": "under"}}
        state = "begin"
        for place, sign in enumerate(text):
            if sign not in follow[state]:
                return place
            state = follow[state][sign]
        return None if state in ("zero", "digits", "under") else len(text)

    def test_12_no_string(self):
        for value in NOT_TEXTS:
            with self.assertRaises(InvalidText) as caught:
                parse_ratio(value)
            self.assertIs(caught.exception.value, value)

    def test_11_sums_go_back(self):
        numbers = Numbers(5)
        for _ in range(200):
            near = made(numbers.below(1000) - 500, 1 + numbers.below(60))
            far = made(1 + numbers.below(1000), -1 - numbers.below(60))
            self.assertEqual(minus(plus(near, far), far), near)
            self.assertEqual(times(over(near, far), far), near)


if __name__ == "__main__":
    unittest.main()
