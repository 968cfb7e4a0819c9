"""Ways and the ties along them: [7]."""

import unittest
from itertools import product

from samples import KITE, LEAST, LINE, RING, STRANGE, TOUCHY, plain_ways, twos
from wishways.errors import InvalidWay
from wishways.ways import is_way, ties_of_way

NOT_WAYS = STRANGE + [[0, 1], (0,), (0, 0), (0, 3), (0, 1, 0), (0, 1, 1), (0, 4), (-1, 0), (0, True), (False, 1), (0, None), "01",
                      (0, 1, 2, 3, 4), (TOUCHY, 1), {0: 1, 1: 2}]


class Ways(unittest.TestCase):
    def test_7_all_short_tuples(self):
        for web in [LEAST, LINE, RING, KITE]:
            ways = [way for one, other in twos(web[1]) for way in plain_ways(web, one, other)]
            for many in range(1, 6):
                for value in product(range(web[1] + 1), repeat=many):
                    self.assertIs(is_way(web, value), value in ways)

    def test_7_any_value(self):
        for value in NOT_WAYS:
            self.assertIs(is_way(KITE, value), False)
            with self.assertRaises(InvalidWay) as caught:
                ties_of_way(KITE, value)
            self.assertIs(caught.exception.value, value)

    def test_7_ties(self):
        for one, other in twos(4):
            for way in plain_ways(KITE, one, other):
                ties = [KITE[2][at][:2] for at in ties_of_way(KITE, way)]
                self.assertEqual(ties, [(min(step), max(step)) for step in zip(way, way[1:])])
                self.assertIs(type(ties_of_way(KITE, way)), tuple)


if __name__ == "__main__":
    unittest.main()
