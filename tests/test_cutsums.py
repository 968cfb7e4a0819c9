"""Sums of cuts, and weighings that bar them: [66], [67]."""

import unittest
from fractions import Fraction
from itertools import combinations, permutations, product

from samples import BOTH, NOT_DISTANCES, NOT_MANY, NOT_SHARINGS, STRANGE, TOUCHY, Numbers, fraction, plain_cuts, ratio_of
from wishways.cutsums import is_sharing, is_sharing_of, is_weighing, sharing_of, table_of, weighing_of
from wishways.distances import distances, is_distance_table
from wishways.errors import InvalidMany, InvalidSharing, InvalidTable

FAR = distances(BOTH, (1,) * 6)
FURTHEST = 10 ** 14


def some_table(numbers, many, most):
    """Distances by a tie between each two places."""
    rows = [[0] * many for _ in range(many)]
    for one, other in combinations(range(many), 2):
        rows[one][other] = rows[other][one] = numbers.below(most + 1)
    for by, one, other in product(range(many), repeat=3):
        rows[one][other] = min(rows[one][other], rows[one][by] + rows[by][other])
    return rows


def some_sharing(numbers, many):
    kept = [cut for cut in sorted(plain_cuts(many)) if numbers.below(3)]
    return tuple([(cut, ratio_of(Fraction(1 + numbers.below(9), 1 + numbers.below(5)))) for cut in kept])


def plain_table(many, sharing):
    return [[ratio_of(sum([fraction(ratio) for cut, ratio in sharing if (one in cut) != (other in cut)], Fraction(0)))
             for other in range(many)] for one in range(many)]


def weighed(weighing, many, far):
    return sum([weight * far(one, other) for weight, (one, other) in zip(weighing, combinations(range(many), 2))])


def cut_weights(weighing, many):
    return [weighed(weighing, many, lambda one, other, lot=cut: int((one in lot) != (other in lot))) for cut in plain_cuts(many)]


def ten_weighings():
    """Those of five places that have 1 between two of them and the other three, -1 elsewhere."""
    return [tuple([1 if (one in two) != (other in two) else -1 for one, other in combinations(range(5), 2)])
            for two in combinations(range(5), 2)]


def does_bar(table, weighing):
    return min(cut_weights(weighing, len(table))) >= 0 and weighed(weighing, len(table), lambda one, other: table[one][other]) < 0


class Sharings(unittest.TestCase):
    def test_66_tables(self):
        numbers = Numbers(221)
        for at in range(60):
            many = 2 + at % 4
            sharing = some_sharing(numbers, many)
            self.assertIs(is_sharing(many, sharing), True)
            self.assertEqual(table_of(many, sharing), plain_table(many, sharing))
        self.assertEqual(table_of(2, ()), [[(0, 1), (0, 1)], [(0, 1), (0, 1)]])
        self.assertEqual(table_of(2, (((1,), (10 ** 39, 7)),)), [[(0, 1), (10 ** 39, 7)], [(10 ** 39, 7), (0, 1)]])

    def test_66_any_value(self):
        for value in NOT_SHARINGS:
            self.assertIs(is_sharing(3, value), False)
            self.assertIs(is_sharing_of([[0] * 3] * 3, value), False)
            with self.assertRaises(InvalidSharing) as caught:
                table_of(3, value)
            self.assertIs(caught.exception.value, value)
        for many in (2, 3, 4, 5):
            self.assertIs(is_sharing(many, ()), True)
            self.assertIs(is_sharing(many, (((many - 1,), (1, 2)),)), True)
            self.assertIs(is_sharing(many, (((many,), (1, 2)),)), False)
            self.assertIs(is_sharing(many, tuple([(cut, (1, 3)) for cut in sorted(plain_cuts(many))])), True)

    def test_66_wrong_many(self):
        for many in NOT_MANY + [6, 7, 8]:
            for function in (is_sharing, table_of):
                with self.assertRaises(InvalidMany) as caught:
                    function(many, None)
                self.assertIs(caught.exception.value, many)

    def test_66_is_sharing_of(self):
        numbers = Numbers(222)
        for at in range(60):
            many = 2 + at % 4
            sharing = tuple([(cut, (ratio[0], 1)) for cut, ratio in some_sharing(numbers, many)])
            table = [[number for number, _ in row] for row in plain_table(many, sharing)]
            self.assertIs(is_sharing_of(table, sharing), True)
            if sharing:
                cut, ratio = sharing[-1]
                self.assertIs(is_sharing_of(table, sharing[:-1]), False)
                self.assertIs(is_sharing_of(table, sharing[:-1] + ((cut, (2 * ratio[0] + 1, 2)),)), False)
                self.assertIs(is_sharing_of(table, list(sharing)), False)
        self.assertIs(is_sharing_of([[0, 0], [0, 0]], ()), True)
        self.assertIs(is_sharing_of([[0, 1], [1, 0]], ()), False)
        self.assertIs(is_sharing_of([[0, 1], [1, 0]], (((1,), (1, 1)),)), True)


class Papers(unittest.TestCase):
    def judge(self, table):
        sharing, weighing = sharing_of(table), weighing_of(table)
        self.assertNotEqual(sharing is None, weighing is None)
        if sharing is not None:
            self.assertEqual(plain_table(len(table), sharing), [[(number, 1) for number in row] for row in table])
            self.assertIs(is_sharing_of(table, sharing), True)
        else:
            self.assertIs(does_bar(table, weighing), True)
            self.assertIs(is_weighing(table, weighing), True)
        return sharing is not None

    def test_67_up_to_four_places_all_are(self):
        numbers = Numbers(223)
        for at in range(120):
            table = some_table(numbers, 2 + at % 3, [1, 2, 9, FURTHEST][at % 4])
            self.assertIs(self.judge(table), True)
        for many in (2, 3, 4, 5):
            self.assertEqual(sharing_of([[0] * many for _ in range(many)]), ())
            self.assertIs(weighing_of([[0] * many for _ in range(many)]), None)

    def test_67_five_places_by_the_ten_weighings(self):
        numbers = Numbers(224)
        told = []
        for at in range(300):
            table = some_table(numbers, 5, [1, 2, 3, 9, FURTHEST][at % 5])
            if at % 3 == 0:
                # Near the one of the two and the three places, which is no sum of cuts.
                table = [[50 * far + number for far, number in zip(row, rest)] for row, rest in zip(FAR, table)]
            barred = any([does_bar(table, weighing) for weighing in ten_weighings()])
            self.assertIs(self.judge(table), not barred)
            told.append(barred)
        self.assertGreater(min(told.count(True), told.count(False)), 20)

    def test_67_all_sequences_of_the_table_that_is_none(self):
        for order in permutations(range(5)):
            table = [[FAR[one][other] for other in order] for one in order]
            self.assertIs(self.judge(table), False)
        great = [[number * (FURTHEST // 2) for number in row] for row in FAR]
        self.assertIs(self.judge(great), False)
        self.assertIs(sharing_of(great), None)

    def test_67_sums_are_told(self):
        numbers = Numbers(225)
        for _ in range(60):
            sharing = tuple([(cut, (ratio[0], 1)) for cut, ratio in some_sharing(numbers, 5)])
            self.assertIs(self.judge([[number for number, _ in row] for row in plain_table(5, sharing)]), True)

    def test_67_is_weighing(self):
        for weighing in ten_weighings():
            self.assertIs(is_weighing(FAR, weighing), does_bar(FAR, weighing))
            self.assertIs(is_weighing([[0] * 5] * 5, weighing), False)
        right = (-1, 1, 1, 1, 1, 1, 1, -1, -1, -1)
        self.assertIs(is_weighing(FAR, right), True)
        self.assertIs(is_weighing(FAR, tuple([10 ** 38 * weight for weight in right])), True)
        numbers = Numbers(226)
        for _ in range(200):
            weighing = tuple([weight + numbers.below(3) - 1 for weight in right])
            self.assertIs(is_weighing(FAR, weighing), does_bar(FAR, weighing))
        for at in range(10):
            for wrong in (True, None, "1", (1,), TOUCHY, -9):
                self.assertIs(is_weighing(FAR, right[:at] + (wrong,) + right[at + 1:]), False)
        for value in STRANGE + [list(right), right[:9], right + (0,), (0,) * 10, (-1,) * 10]:
            self.assertIs(is_weighing(FAR, value), False)
        for many in (2, 3, 4):
            table = some_table(numbers, many, 9)
            for weighing in product((-1, 0, 1), repeat=many * (many - 1) // 2):
                self.assertIs(is_weighing(table, weighing), False)

    def test_67_wrong_tables(self):
        for table in NOT_DISTANCES + [[[0] * many for _ in range(many)] for many in (6, 7, 8)]:
            for call in [(sharing_of,), (weighing_of,), (is_sharing_of, ()), (is_weighing, ())]:
                with self.assertRaises(InvalidTable) as caught:
                    call[0](table, *call[1:])
                self.assertIs(caught.exception.value, table)
        self.assertIs(is_distance_table([[0] * 6 for _ in range(6)]), True)


if __name__ == "__main__":
    unittest.main()
