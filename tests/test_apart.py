"""Ways apart, and ties that part: [44]."""

import unittest
from itertools import combinations

from samples import BOTH, KITE, LEAST, LINE, RING, STRANGE, TOUCHY, WHEEL, plain_joined, plain_ways, some_webs, twos
from wishways.apart import are_apart, do_part, parting_ties, ways_apart
from wishways.errors import InvalidPlace

WEBS = [LEAST, LINE, RING, KITE, BOTH] + some_webs(21, seed=61)


def ties_of(way):
    return {(min(one, other), max(one, other)) for one, other in zip(way, way[1:])}


def plain_apart(web, one, other, ways):
    told = plain_ways(web, one, other)
    if not all([way in told for way in ways]):
        return False
    return not any([ties_of(way) & ties_of(second) for way, second in combinations(ways, 2)])


def plain_part(web, one, other, positions):
    kept = [tie for at, tie in enumerate(web[2]) if at not in positions]
    return plain_ways(("web", web[1], kept), one, other) == []


def plain_fewest(web, one, other):
    for many in range(1, len(web[2]) + 1):
        for positions in combinations(range(len(web[2])), many):
            if plain_part(web, one, other, positions):
                return list(positions)
    return None


class Apart(unittest.TestCase):
    def test_44_told_ways(self):
        for web in WEBS + [WHEEL]:
            for one, other in twos(web[1]):
                ways = ways_apart(web, one, other)
                self.assertIs(type(ways), list)
                self.assertIs(plain_apart(web, one, other, ways), True)
                self.assertIs(are_apart(web, one, other, ways), True)
                self.assertEqual(len(ways), len(parting_ties(web, one, other)))

    def test_44_rooms_do_not_matter(self):
        self.assertEqual([len(ways_apart(RING, 0, 2)), len(ways_apart(LINE, 0, 2)), len(ways_apart(LEAST, 1, 0))], [2, 1, 1])
        self.assertEqual(ways_apart(LINE, 2, 0), [(2, 1, 0)])

    def test_44_all_lists_of_two_ways(self):
        for web in [RING, KITE, BOTH]:
            for one, other in twos(web[1]):
                ways = plain_ways(web, one, other)
                for way in ways:
                    self.assertIs(are_apart(web, one, other, [way]), True)
                    self.assertIs(are_apart(web, other, one, [way]), False)
                    self.assertIs(are_apart(web, one, other, [way, way]), False)
                    for second in ways:
                        self.assertIs(are_apart(web, one, other, (way, second)), not ties_of(way) & ties_of(second))

    def test_44_ends(self):
        self.assertIs(are_apart(KITE, 0, 3, [(0, 1, 3), (0, 2)]), False)
        self.assertIs(are_apart(KITE, 0, 3, [(1, 3)]), False)
        self.assertIs(are_apart(KITE, 0, 3, [(0, 3)]), False)
        self.assertIs(are_apart(KITE, 0, 3, [(0, 1, 0, 2, 3)]), False)
        self.assertIs(are_apart(KITE, 0, 3, [(0, 1, 3), (0, 2, 3)]), True)

    def test_44_any_value(self):
        for value in [(), []]:
            self.assertIs(are_apart(KITE, 0, 3, value), True)
        for value in [value for value in STRANGE if not isinstance(value, (list, tuple)) or len(value) > 0] + [
                [[0, 1, 3]], [(0, 1, 3), None], [(0, True, 3)], [(False, 1, 3)], {(0, 1, 3)}, {(0, 1, 3): 1}, [(TOUCHY, 1, 3)],
                [(0, 1, 3, 3)], [(0,)], [()], (0, 1, 3), [(0, 1, 4)], [(0, 1, -1)], [(0, None, 3)]]:
            self.assertIs(are_apart(KITE, 0, 3, value), False)


class Parting(unittest.TestCase):
    def test_44_first_fewest_list(self):
        for web in WEBS:
            for one, other in twos(web[1]):
                told = parting_ties(web, one, other)
                self.assertIs(type(told), list)
                self.assertEqual(told, plain_fewest(web, one, other))
                self.assertIs(do_part(web, one, other, told), True)

    def test_44_all_lists_of_positions(self):
        for web in [LEAST, LINE, RING, KITE]:
            places = range(web[1])
            for many in range(len(web[2]) + 1):
                for positions in combinations(range(len(web[2])), many):
                    for one, other in twos(web[1]):
                        so = plain_part(web, one, other, positions)
                        self.assertIs(do_part(web, one, other, list(positions)), so)
                        self.assertIs(do_part(web, one, other, positions), so)
            self.assertTrue(plain_joined(places, [tie[:2] for tie in web[2]]))

    def test_44_any_value(self):
        for value in STRANGE + [[], [4, 3], [3, 3, 4], [3, 4, 5], [-1, 3, 4], [3, True, 4], [True, 3, 4], [3, None], [3, "4"],
                                {3, 4}, {3: 0, 4: 0}, range(3, 5), "34", [[3, 4]], [3, TOUCHY], [0, 1, 2, 3, 4, 5], [5]]:
            self.assertIs(do_part(KITE, 0, 3, value), False)
        for value in [[3, 4], (3, 4), [0, 1, 2, 3, 4], [0, 1]]:
            self.assertIs(do_part(KITE, 0, 3, value), True)

    def test_2_like_places_are_refused(self):
        for call in [(ways_apart,), (parting_ties,), (are_apart, []), (do_part, [])]:
            for one, other, value in [(2, 2, 2), (4, 4, 4), (2, False, False), (-1, 2, -1)]:
                with self.assertRaises(InvalidPlace) as caught:
                    call[0](RING, one, other, *call[1:])
                self.assertIs(caught.exception.value, value)


if __name__ == "__main__":
    unittest.main()
