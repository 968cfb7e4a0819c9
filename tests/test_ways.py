"""Ways and the ties along them: [7]."""

import unittest
from itertools import product

from samples import BOTH, KITE, LEAST, LINE, NOT_PLACES, RING, STRANGE, TOUCHY, WHEEL, plain_ways, some_webs, steps_of, twos
from wishways.errors import InvalidPlace, InvalidWay
from wishways.ways import is_way, ties_of_way, ways_of

NOT_WAYS = STRANGE + [[0, 1], (0,), (0, 0), (0, 3), (0, 1, 0), (0, 1, 1), (0, 4), (-1, 0), (0, True), (False, 1), (0, None), "01",
                      (0, 1, 2, 3, 4), (TOUCHY, 1), {0: 1, 1: 2}]


class Ways(unittest.TestCase):
    def test_7_all_short_tuples(self):
        for web in [LEAST, LINE, RING, KITE]:
            ways = [way for one, other in twos(web[1]) for way in plain_ways(web, one, other)]
            for many in range(1, 6):
                for value in product(range(web[1] + 1), repeat=many):
                    self.assertIs(is_way(web, value), value in ways)

    def test_7_any_value(self):
        for value in NOT_WAYS:
            self.assertIs(is_way(KITE, value), False)
            with self.assertRaises(InvalidWay) as caught:
                ties_of_way(KITE, value)
            self.assertIs(caught.exception.value, value)

    def test_7_ties(self):
        for one, other in twos(4):
            for way in plain_ways(KITE, one, other):
                ties = [KITE[2][at][:2] for at in ties_of_way(KITE, way)]
                self.assertEqual(ties, steps_of(way))
                self.assertIs(type(ties_of_way(KITE, way)), tuple)

    def test_7_all_ways_sorted(self):
        for web in [LEAST, LINE, RING, KITE, BOTH, WHEEL] + some_webs(14, seed=231):
            for one, other in twos(web[1]):
                ways = ways_of(web, one, other)
                self.assertEqual(ways, sorted(plain_ways(web, one, other)))
                self.assertEqual(ways, sorted([way[::-1] for way in ways_of(web, other, one)]))
                self.assertTrue(all([is_way(web, way) for way in ways]))

    def test_7_all_ways_by_all_tuples(self):
        for web in [LEAST, LINE, RING, KITE]:
            for one, other in twos(web[1]):
                tuples = [value for many in range(5) for value in product(range(web[1]), repeat=many)]
                self.assertEqual(ways_of(web, one, other), sorted(
                    [value for value in tuples if is_way(web, value) and value[0] == one and value[-1] == other]))

    def test_7_of_a_place_to_itself(self):
        for web in [LEAST, LINE, WHEEL]:
            for place in range(web[1]):
                self.assertEqual(ways_of(web, place, place), [])

    def test_7_wrong_places(self):
        for place in NOT_PLACES + [4, 5]:
            for one, other in [(place, 0), (0, place), (place, TOUCHY)]:
                with self.assertRaises(InvalidPlace) as caught:
                    ways_of(KITE, one, other)
                self.assertIs(caught.exception.value, place)


if __name__ == "__main__":
    unittest.main()
