"""Tables of unequations: [51] to [56], as far as tables are told."""

import unittest
from fractions import Fraction
from itertools import product

from samples import NOT_RATIOS, STRANGE, TOUCHY
from wishways.errors import InvalidPoint, InvalidTable
from wishways.tables import (is_answer, is_bar, is_direction, is_point, is_price_row, is_table, tight_rows, worth_of)

TWO = ("table", ((1, 1), (1, 0)), (4, 3), (3, 2))
ENDLESS = ("table", ((1, -1),), (1,), (0, 1))
NONE = ("table", ((1,), (-1,)), (1, -2), (0,))
MIXED = ("table", ((2, -1, 0), (-1, 3, 1)), (1, -2), (1, 0, -1))
MOST = 10 ** 6
NOT_TABLES = STRANGE + [
    ["table", ((1,),), (1,), (1,)], ("tables", ((1,),), (1,), (1,)), (b"table", ((1,),), (1,), (1,)), ("table", ((1,),), (1,)),
    ("table", ((1,),), (1,), (1,), ()), ("table", [(1,)], (1,), (1,)), ("table", ([1],), (1,), (1,)), ("table", ((1,),), [1], (1,)),
    ("table", ((1,),), (1,), [1]), ("table", (), (), (1,)), ("table", ((),), (1,), ()), ("table", ((1,),), (), (1,)),
    ("table", ((1,),), (1, 2), (1,)), ("table", ((1,), (2,)), (1,), (1,)), ("table", ((1, 2),), (1,), (1,)),
    ("table", ((1,),), (1,), (1, 2)), ("table", ((1, 2), (1,)), (1, 2), (1, 2)), ("table", ((True,),), (1,), (1,)),
    ("table", ((1,),), (False,), (1,)), ("table", ((1,),), (1,), (True,)), ("table", ((None,),), (1,), (1,)),
    ("table", (("1",),), (1,), (1,)), ("table", ((MOST + 1,),), (1,), (1,)), ("table", ((-MOST - 1,),), (1,), (1,)),
    ("table", ((1,),), (MOST + 1,), (1,)), ("table", ((1,),), (-MOST - 1,), (1,)), ("table", ((1,),), (1,), (MOST + 1,)),
    ("table", ((1,),), (1,), (-MOST - 1,)), ("table", ((1,),) * 31, (1,) * 31, (1,)), ("table", ((1,) * 31,), (1,), (1,) * 31),
    ("table", (None,), (1,), (1,)), ("table", ((1, TOUCHY),), (1,), (1, 1)), ("table", ((1,),), (1,), None),
    ("table", ((1,),), None, (1,)), ("table", None, (1,), (1,)), ("table", ((1,),), (TOUCHY,), (1,))]
GRID = [(0, 1), (1, 1), (1, 2), (3, 2), (2, 1), (1, 3), (-1, 2), (3, 1)]


def summed(row, ratios):
    return sum([number * Fraction(*ratio) for number, ratio in zip(row, ratios)], Fraction(0))


def none_below(ratios):
    return all([ratio[0] >= 0 for ratio in ratios])


def columns(table):
    return list(zip(*table[1]))


class IsTable(unittest.TestCase):
    def test_51_tables(self):
        for table in [TWO, ENDLESS, NONE, MIXED, ("table", ((0,),), (0,), (0,)), ("table", ((MOST,),), (MOST,), (MOST,)),
                      ("table", ((-MOST,),), (-MOST,), (-MOST,)), ("table", ((1,),) * 30, (1,) * 30, (1,)),
                      ("table", ((1,) * 30,), (1,), (1,) * 30), ("table", ((1,) * 30,) * 30, (1,) * 30, (1,) * 30)]:
            self.assertIs(is_table(table), True)

    def test_51_others(self):
        for value in NOT_TABLES:
            self.assertIs(is_table(value), False)

    def test_2_wrong_tables(self):
        for value in NOT_TABLES:
            for function in (is_point, is_price_row, is_direction, is_bar, is_answer, worth_of, tight_rows):
                with self.assertRaises(InvalidTable) as caught:
                    function(value, None)
                self.assertIs(caught.exception.value, value)


class Judged(unittest.TestCase):
    def each(self, table, many):
        return [value for value in product(GRID, repeat=many)]

    def test_51_points(self):
        told = []
        for table in [TWO, ENDLESS, NONE, MIXED]:
            for value in self.each(table, len(table[3])):
                so = none_below(value) and all([summed(row, value) <= bound for row, bound in zip(table[1], table[2])])
                self.assertIs(is_point(table, value), so)
                told.append(so)
                if so:
                    worth = summed(table[3], value)
                    self.assertEqual(worth_of(table, value), (worth.numerator, worth.denominator))
                    self.assertEqual(tight_rows(table, value),
                                     [at for at, row in enumerate(table[1]) if summed(row, value) == table[2][at]])
        self.assertIn(True, told)
        self.assertIn(False, told)

    def test_52_price_rows(self):
        told = []
        for table in [TWO, ENDLESS, NONE, MIXED]:
            for value in self.each(table, len(table[1])):
                so = none_below(value) and all([summed(column, value) >= worth for column, worth in zip(columns(table), table[3])])
                self.assertIs(is_price_row(table, value), so)
                told.append(so)
        self.assertIn(True, told)
        self.assertIn(False, told)

    def test_53_directions(self):
        told = []
        for table in [TWO, ENDLESS, NONE, MIXED, ("table", ((1, -1), (-1, 1)), (1, 2), (1, 1)), ("table", ((0, 0),), (1,), (1, -1))]:
            for value in self.each(table, len(table[3])):
                so = none_below(value) and all([summed(row, value) <= 0 for row in table[1]]) and summed(table[3], value) > 0
                self.assertIs(is_direction(table, value), so)
                told.append(so)
        self.assertIn(True, told)
        self.assertIn(False, told)

    def test_54_bars(self):
        told = []
        for table in [TWO, ENDLESS, NONE, MIXED, ("table", ((1, -1), (-1, 1)), (1, -2), (1, 1)), ("table", ((0,), (0,)), (-1, 1), (1,))]:
            for value in self.each(table, len(table[1])):
                so = none_below(value) and all([summed(column, value) >= 0 for column in columns(table)]) and summed(table[2], value) < 0
                self.assertIs(is_bar(table, value), so)
                told.append(so)
        self.assertIn(True, told)
        self.assertIn(False, told)

    def test_53_and_54_last_row_and_last_position(self):
        rows = ("table", ((-1,),) * 6 + ((1,),), (0,) * 7, (1,))
        self.assertIs(is_direction(rows, ((1, 1),)), False)
        self.assertIs(is_direction(("table", ((-1,),) * 7, (0,) * 7, (1,)), ((1, 1),)), True)
        self.assertIs(is_bar(("table", ((1, 0, -1),), (-1,), (0, 0, 0)), ((1, 1),)), False)
        self.assertIs(is_bar(("table", ((1, 0, 1),), (-1,), (0, 0, 0)), ((1, 1),)), True)
        self.assertIs(is_price_row(("table", ((1, 1, 1),), (0,), (1, 1, 2)), ((1, 1),)), False)
        self.assertIs(is_point(("table", ((1,),) * 7, (1,) * 6 + (0,), (1,)), ((1, 1),)), False)

    def test_51_to_54_any_value(self):
        zero = ((0, 1), (0, 1))
        for function in (is_point, is_price_row, is_direction, is_bar):
            for table in [TWO, ("table", ((0, 0), (0, 0)), (0, 0), (0, 0))]:
                for value in STRANGE + [list(zero), zero[:1], zero + ((0, 1),), ((0, 1), None), ((0, 1), 0), ([0, 1], (0, 1))]:
                    self.assertIs(function(table, value), False)
                for ratio in NOT_RATIOS:
                    self.assertIs(function(table, ((0, 1), ratio)), False)

    def test_51_great_numbers(self):
        table = ("table", ((MOST,) * 30,) * 30, (MOST,) * 30, (-MOST,) * 30)
        self.assertIs(is_point(table, ((1, 30),) * 30), True)
        self.assertIs(is_point(table, ((1, 30),) * 29 + ((1, 29),)), False)
        self.assertEqual(tight_rows(table, ((1, 30),) * 30), list(range(30)))
        self.assertEqual(worth_of(table, ((1, 30),) * 30), (-MOST, 1))
        great = 10 ** 39
        self.assertIs(is_point(("table", ((1,),), (1,), (1,)), ((great - 1, great),)), True)
        self.assertIs(is_point(("table", ((1,),), (1,), (1,)), ((great + 1, great),)), False)
        self.assertEqual(tight_rows(("table", ((1,),), (1,), (1,)), ((great - 1, great),)), [])


class Answers(unittest.TestCase):
    def test_55_best(self):
        point, prices = ((3, 1), (1, 1)), ((2, 1), (1, 1))
        self.assertIs(is_answer(TWO, ("best", point, prices)), True)
        for value in [("best", point), ("best", point, prices, ()), ["best", point, prices], ("beat", point, prices),
                      ("best", prices, point), ("best", ((3, 1), (0, 1)), prices), ("best", point, ((3, 1), (1, 1))),
                      ("best", ((3, 1), (2, 1)), prices), ("best", point, ((2, 1), (0, 1))), ("best", list(point), prices),
                      ("best", None, prices), ("best", point, None), ("best", TOUCHY, TOUCHY), ("endless", point, prices),
                      ("none", point), (b"best", point, prices), ("best", ((4, 1), (0, 1)), ((3, 1), (0, 1)))]:
            self.assertIs(is_answer(TWO, value), False)

    def test_55_best_where_neither_is_one_of_the_table(self):
        # Like worth and cost alone are not enough.
        self.assertIs(is_answer(TWO, ("best", ((0, 1), (0, 1)), ((0, 1), (0, 1)))), False)
        self.assertIs(is_answer(TWO, ("best", ((2, 1), (4, 1)), ((2, 1), (2, 1)))), False)

    def test_55_endless(self):
        self.assertIs(is_answer(ENDLESS, ("endless", ((0, 1), (0, 1)), ((0, 1), (1, 1)))), True)
        self.assertIs(is_answer(ENDLESS, ("endless", ((1, 1), (5, 1)), ((1, 2), (1, 2)))), True)
        for value in [("endless", ((2, 1), (0, 1)), ((0, 1), (1, 1))), ("endless", ((0, 1), (0, 1)), ((1, 1), (0, 1))),
                      ("endless", ((0, 1), (0, 1)), ((0, 1), (0, 1))), ("endless", ((0, 1), (0, 1))), ("none", ((0, 1), (1, 1))),
                      ("best", ((0, 1), (0, 1)), ((0, 1), (1, 1))), ("endless", TOUCHY, ((0, 1), (1, 1))),
                      ["endless", ((0, 1), (0, 1)), ((0, 1), (1, 1))], ("endless", ((0, 1), (0, 1)), ((0, 1), (1, 1)), 0)]:
            self.assertIs(is_answer(ENDLESS, value), False)

    def test_55_none(self):
        self.assertIs(is_answer(NONE, ("none", ((1, 1), (1, 1)))), True)
        self.assertIs(is_answer(NONE, ("none", ((2, 3), (2, 3)))), True)
        for value in [("none", ((1, 1), (0, 1))), ("none", ((0, 1), (1, 1))), ("none", ((2, 1), (1, 1))), ("none",), ("none", TOUCHY),
                      ("none", ((1, 1), (1, 1)), ()), ["none", ((1, 1), (1, 1))], ("none", [(1, 1), (1, 1)]), ("best", ((1, 1), (1, 1)))]:
            self.assertIs(is_answer(NONE, value), False)

    def test_55_any_value(self):
        for table in (TWO, ENDLESS, NONE):
            for value in STRANGE:
                self.assertIs(is_answer(table, value), False)


class Points(unittest.TestCase):
    def test_51_wrong_points(self):
        for value in STRANGE + [((3, 1), (3, 2)), ((4, 1), (0, 1)), ((-1, 1), (0, 1)), [(3, 1), (1, 1)], ((3, 1),), ((2, 4), (0, 1)),
                                ((3, 1), (1, 1), (0, 1))]:
            for function in (worth_of, tight_rows):
                with self.assertRaises(InvalidPoint) as caught:
                    function(TWO, value)
                self.assertIs(caught.exception.value, value)

    def test_52_worths(self):
        self.assertEqual([worth_of(TWO, ((3, 1), (1, 1))), worth_of(TWO, ((0, 1), (0, 1))), worth_of(TWO, ((1, 2), (1, 3)))],
                         [(11, 1), (0, 1), (13, 6)])
        self.assertEqual([tight_rows(TWO, ((3, 1), (1, 1))), tight_rows(TWO, ((0, 1), (0, 1))), tight_rows(TWO, ((5, 2), (3, 2)))],
                         [[0, 1], [], [0]])


if __name__ == "__main__":
    unittest.main()
