"""Tables solved, by exchanges and by a plain look at all corners: [51] to [56]."""

import unittest
from fractions import Fraction
from itertools import combinations, product
from math import comb

from samples import Numbers, fraction, ratio_of
from wishways.errors import TooMany
from wishways.solving import best_worth, plain_best, solved
from wishways.tables import is_answer

TWO = ("table", ((1, 1), (1, 0)), (4, 3), (3, 2))
ENDLESS = ("table", ((1, -1),), (1,), (0, 1))
NONE = ("table", ((1,), (-1,)), (1, -2), (0,))
MOST = 10 ** 6


def some_table(numbers, rows, positions, most):
    def row(many, least=-most):
        return tuple([least + numbers.below(most - least + 1) for _ in range(many)])
    # Bounds mostly above 0, so that all three words come.
    return ("table", tuple([row(positions) for _ in range(rows)]), row(rows, -(most // 2)), row(positions))


def some_tables(count, most_rows, most_positions, seed):
    numbers = Numbers(seed)
    return [some_table(numbers, 1 + numbers.below(most_rows), 1 + numbers.below(most_positions), [1, 2, 9, MOST][at % 4])
            for at in range(count)]


def eliminated(equations):
    """The only fractions that make equations hold, by taking one position after another out; None if not just one does."""
    lines = [[Fraction(number) for number in line] for line in equations]
    for at in range(len(lines)):
        chief = next((line for line in lines[at:] if line[at] != 0), None)
        if chief is None:
            return None
        lines.remove(chief)
        lines.insert(at, [number / chief[at] for number in chief])
        for row in range(len(lines)):
            if row != at:
                lines[row] = [number - lines[row][at] * other for number, other in zip(lines[row], lines[at])]
    return [line[-1] for line in lines]


def corners(table):
    """All corners, each limit a whole equation with all positions."""
    _, rows, bounds, worths = table
    many = len(worths)
    limits = [list(row) + [bound] for row, bound in zip(rows, bounds)]
    limits += [[1 if at == position else 0 for at in range(many)] + [0] for position in range(many)]
    found = []
    for chosen in combinations(limits, many):
        point = eliminated([list(line) for line in chosen])
        if point is not None and min(point) >= 0 and judge(rows, point, bounds):
            found.append(point)
    return found


def judge(rows, point, bounds):
    return all([sum([number * part for number, part in zip(row, point)]) <= bound for row, bound in zip(rows, bounds)])


def summed(row, ratios):
    return sum([number * fraction(ratio) for number, ratio in zip(row, ratios)], Fraction(0))


def is_told(table, answer):
    """Whether an answer is one, by adding up alone."""
    _, rows, bounds, worths = table
    sides = {"best": (len(worths), len(rows)), "endless": (len(worths), len(worths)), "none": (len(rows),)}
    parts = answer[1:]
    for part, many in zip(parts, sides[answer[0]]):
        if type(part) is not tuple or len(part) != many or min([fraction(ratio) for ratio in part]) < 0:
            return False
        if any([ratio_of(fraction(ratio)) != ratio for ratio in part]):
            return False
    columns = list(zip(*rows))
    if answer[0] == "none":
        return all([summed(column, parts[0]) >= 0 for column in columns]) and summed(bounds, parts[0]) < 0
    if not all([summed(row, parts[0]) <= bound for row, bound in zip(rows, bounds)]):
        return False
    if answer[0] == "endless":
        return all([summed(row, parts[1]) <= 0 for row in rows]) and summed(worths, parts[1]) > 0
    dear = all([summed(column, parts[1]) >= worth for column, worth in zip(columns, worths)])
    return dear and summed(worths, parts[0]) == summed(bounds, parts[1])


class Solved(unittest.TestCase):
    def test_55_each_answer_is_one_by_adding_up(self):
        words = []
        for table in some_tables(400, 6, 5, 101) + some_tables(60, 14, 14, 102):
            answer = solved(table)
            self.assertIs(type(answer), tuple)
            self.assertEqual(len(answer), {"best": 3, "endless": 3, "none": 2}[answer[0]])
            self.assertIs(is_told(table, answer), True)
            self.assertIs(is_answer(table, answer), True)
            self.assertEqual(solved(table), answer)
            words.append(answer[0])
        self.assertGreater(min([words.count(word) for word in ("best", "endless", "none")]), 30)

    def test_55_all_small_tables(self):
        numbers = (-1, 0, 1)
        for row in product(numbers, repeat=2):
            for second in product(numbers, repeat=2):
                for bounds in product((-1, 0, 2), repeat=2):
                    for worths in product(numbers, repeat=2):
                        table = ("table", (row, second), bounds, worths)
                        self.assertIs(is_told(table, solved(table)), True)

    def test_55_greatest_tables(self):
        numbers = Numbers(103)
        for most in (1, 3, MOST):
            for _ in range(3):
                table = some_table(numbers, 30, 30, most)
                for bounds in (table[2], tuple([abs(bound) for bound in table[2]])):
                    answer = solved(("table", table[1], bounds, table[3]))
                    self.assertIs(is_told(("table", table[1], bounds, table[3]), answer), True)
                    digits = [len(str(abs(number))) for part in answer[1:] for ratio in part for number in ratio]
                    self.assertLessEqual(max(digits), 400)

    def test_55_edges(self):
        tables = [("table", ((0,),), (0,), (0,)), ("table", ((0,),), (-1,), (5,)), ("table", ((0,),), (0,), (1,)),
                  ("table", ((0,),), (0,), (-1,)), ("table", ((1,),), (0,), (1,)), ("table", ((-1,),), (-1,), (-1,)),
                  ("table", ((1,), (-1,)), (2, -2), (7,)), ("table", ((MOST,),), (MOST,), (MOST,)),
                  ("table", ((1, 1),) * 30, (-1,) * 30, (1, 1)), ("table", ((-1, 1), (1, -1)), (-1, 0), (1, 1)),
                  ("table", ((-1,) * 30,), (-MOST,), (-1,) * 30), ("table", ((1, -1), (-1, 1)), (0, 0), (1, -1))]
        words = ["best", "none", "endless", "best", "best", "best", "best", "best", "none", "none", "best", "best"]
        for table, word in zip(tables, words):
            answer = solved(table)
            self.assertEqual(answer[0], word)
            self.assertIs(is_told(table, answer), True)
        self.assertEqual(best_worth(tables[6]), (14, 1))
        self.assertEqual(best_worth(tables[10]), (-MOST, 1))

    def test_55_where_many_limits_meet(self):
        # Beale's table, in whole numbers: here exchanges come again, if the row that leaves is badly chosen.
        beale = ("table", ((1, -240, -4, 36), (1, -180, -1, 6), (0, 0, 1, 0)), (0, 0, 1), (75, -15000, 2, -600))
        self.assertEqual(best_worth(beale), plain_best(beale))
        self.assertIs(is_told(beale, solved(beale)), True)
        for table in some_tables(120, 6, 4, 104):
            flat = ("table", table[1], (0,) * len(table[1]), table[3])
            self.assertIs(is_told(flat, solved(flat)), True)
            for bounds in ((-1,) * len(table[1]), (1,) * len(table[1])):
                alike = ("table", table[1], bounds, table[3])
                self.assertIs(is_told(alike, solved(alike)), True)

    def test_56_best_worth_of_all_corners(self):
        told = []
        for table in some_tables(260, 5, 4, 105) + [TWO, ENDLESS, NONE]:
            worths = [sum([worth * part for worth, part in zip(table[3], point)]) for point in corners(table)]
            word = solved(table)[0]
            self.assertEqual(worths == [], word == "none")
            self.assertEqual(plain_best(table), ratio_of(max(worths)) if worths else None)
            self.assertEqual(best_worth(table), ratio_of(max(worths)) if word == "best" else None)
            told.append(word)
        self.assertEqual(sorted(set(told)), ["best", "endless", "none"])

    def test_56_more_choices_than_500(self):
        def blank(rows, positions):
            return ("table", ((1,) * positions,) * rows, (1,) * rows, (1,) * positions)
        sizes = [(29, 2), (30, 2), (30, 1), (1, 30), (2, 29), (2, 30), (8, 3), (12, 3), (13, 3), (5, 5), (6, 6), (30, 30), (7, 4),
                 (8, 4), (3, 12), (3, 13)]
        for rows, positions in sizes:
            if comb(rows + positions, positions) > 500:
                with self.assertRaises(TooMany) as caught:
                    plain_best(blank(rows, positions))
                self.assertEqual((caught.exception.what, caught.exception.limit), ("choices", 500))
            else:
                self.assertEqual(plain_best(blank(rows, positions)), (1, 1))
        self.assertEqual(best_worth(blank(30, 30)), (1, 1))
        # Also where nothing is to be found.
        with self.assertRaises(TooMany):
            plain_best(("table", ((0, 0, 0),) * 13, (-1,) * 13, (0, 0, 0)))
        self.assertIs(plain_best(("table", ((0, 0, 0),) * 12, (-1,) * 12, (0, 0, 0))), None)

    def test_56_a_corner_where_the_worth_is_endless(self):
        self.assertEqual(plain_best(("table", ((1, -1),), (1,), (1, 1))), (1, 1))
        self.assertEqual(plain_best(("table", ((-1,),), (-3,), (2,))), (6, 1))
        self.assertIs(best_worth(("table", ((-1,),), (-3,), (2,))), None)
        self.assertEqual(plain_best(("table", ((0,),), (0,), (9,))), (0, 1))
        self.assertIs(best_worth(NONE), None)

    def test_56_ratios(self):
        table = ("table", ((2, 3), (5, 1)), (4, 6), (1, 1))
        self.assertEqual([best_worth(table), plain_best(table)], [(22, 13), (22, 13)])
        self.assertEqual(best_worth(("table", ((3,),), (-0,), (1,))), (0, 1))


if __name__ == "__main__":
    unittest.main()
