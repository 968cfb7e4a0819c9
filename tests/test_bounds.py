"""Duals, points, bars and ranges of tables: [54], [57], [58]."""

import unittest

from samples import NOT_PLACES, fraction
from test_solving import ENDLESS, MOST, NONE, TWO, corners, some_tables
from wishways.bounds import dual_table, has_point, range_at, some_bar, some_point
from wishways.errors import InvalidPosition, NoPoint
from wishways.solving import best_worth, solved
from wishways.tables import is_bar, is_direction, is_point, is_price_row, is_table

TABLES = some_tables(200, 5, 4, 111) + some_tables(20, 15, 15, 112) + [TWO, ENDLESS, NONE]


class Duals(unittest.TestCase):
    def test_57_rows_bounds_and_worths(self):
        for table in TABLES:
            dual = dual_table(table)
            self.assertIs(is_table(dual), True)
            self.assertEqual(dual[1], tuple([tuple([-row[at] for row in table[1]]) for at in range(len(table[3]))]))
            self.assertEqual(dual[2:], (tuple([-worth for worth in table[3]]), tuple([-bound for bound in table[2]])))
            self.assertEqual(dual_table(dual), table)

    def test_57_what_the_dual_tells(self):
        for table in TABLES:
            answer, other = solved(table), solved(dual_table(table))
            if answer[0] == "best":
                self.assertEqual(other[0], "best")
                self.assertIs(is_price_row(table, other[1]), True)
                self.assertEqual(fraction(best_worth(dual_table(table))), -fraction(best_worth(table)))
            elif answer[0] == "endless":
                self.assertEqual(other[0], "none")
                self.assertIs(is_direction(table, other[1]), True)
            else:
                self.assertIn(other[0], ("endless", "none"))
                self.assertIs(other[0] == "endless" and not is_bar(table, other[2]), False)

    def test_57_great_numbers(self):
        table = ("table", ((MOST, -MOST),), (-MOST,), (0, MOST))
        self.assertEqual(dual_table(table), ("table", ((-MOST,), (MOST,)), (0, -MOST), (MOST,)))


class Points(unittest.TestCase):
    def test_54_points_and_bars_just_one_of_both(self):
        told = []
        for table in TABLES:
            point, bar = some_point(table), some_bar(table)
            self.assertEqual([point is None, bar is None], [solved(table)[0] == "none", solved(table)[0] != "none"])
            self.assertIs(has_point(table), point is not None)
            self.assertIs(is_point(table, point), point is not None)
            self.assertIs(is_bar(table, bar), bar is not None)
            told.append(point is None)
        self.assertGreater(min(told.count(True), told.count(False)), 20)

    def test_54_edges(self):
        self.assertEqual([has_point(("table", ((0,),), (0,), (0,))), has_point(("table", ((0,),), (-1,), (0,)))], [True, False])
        self.assertEqual([some_point(TWO) is None, some_bar(TWO), has_point(TWO)], [False, None, True])
        self.assertEqual([some_point(NONE), some_bar(NONE) is None, has_point(NONE)], [None, False, False])
        # What is endless has points.
        self.assertIs(is_point(ENDLESS, some_point(ENDLESS)), True)
        self.assertIs(some_bar(ENDLESS), None)


class Ranges(unittest.TestCase):
    def test_58_ends(self):
        self.assertEqual([range_at(TWO, 0), range_at(TWO, 1), range_at(ENDLESS, 0), range_at(ENDLESS, 1)],
                         [((0, 1), (3, 1)), ((0, 1), (4, 1)), ((0, 1), None), ((0, 1), None)])
        between = ("table", ((2, 0), (-3, 0), (0, -1)), (9, -5, -7), (0, 0))
        self.assertEqual([range_at(between, 0), range_at(between, 1)], [((5, 3), (9, 2)), ((7, 1), None)])
        self.assertEqual(range_at(("table", ((1,), (-1,)), (2, -2), (1,)), 0), ((2, 1), (2, 1)))
        self.assertEqual(range_at(("table", ((1,),), (0,), (-1,)), 0), ((0, 1), (0, 1)))
        self.assertEqual(range_at(("table", ((0,),), (0,), (1,)), 0), ((0, 1), None))

    def test_58_worths_do_not_matter(self):
        for worths in ((0, 0), (-5, 9), (MOST, -MOST)):
            self.assertEqual(range_at(("table", TWO[1], TWO[2], worths), 0), ((0, 1), (3, 1)))

    def test_58_by_all_corners(self):
        ends = []
        for table in some_tables(150, 4, 3, 113):
            points = corners(table)
            for at in range(len(table[3])):
                if not points:
                    with self.assertRaises(NoPoint):
                        range_at(table, at)
                    continue
                least, greatest = range_at(table, at)
                self.assertEqual(fraction(least), min([point[at] for point in points]))
                # On without end is the greatest one exactly if the worth of this position alone is endless.
                alone = solved(("table", table[1], table[2], tuple([1 if at == place else 0 for place in range(len(table[3]))])))
                self.assertEqual(greatest is None, alone[0] == "endless")
                if greatest is not None:
                    self.assertEqual(fraction(greatest), max([point[at] for point in points]))
                ends.append(greatest is None)
        self.assertGreater(min(ends.count(True), ends.count(False)), 20)

    def test_58_wrong_positions(self):
        for table in (TWO, ENDLESS):
            for position in NOT_PLACES + [2, 30]:
                with self.assertRaises(InvalidPosition) as caught:
                    range_at(table, position)
                self.assertIs(caught.exception.value, position)

    def test_58_position_ahead_of_no_point(self):
        with self.assertRaises(NoPoint):
            range_at(NONE, 0)
        with self.assertRaises(InvalidPosition):
            range_at(NONE, 1)


if __name__ == "__main__":
    unittest.main()
