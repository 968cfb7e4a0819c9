"""Apart, rings of three, kinds, bad parts, greatest good parts: [111] to [113], [115], [117]."""

import unittest
from itertools import combinations, permutations

from samples import NOT_PAIRS, Numbers, some_pairs, some_webs
from test_fourplaces import is_plainly_good, over, plain_ring
from test_hubs import ALL_OF_FIVE, members, plain_hubs
from wishways.deciding import is_served
from wishways.errors import InvalidPairs
from wishways.fourplaces import are_good
from wishways.kinds import apart_threes, bad_parts, besides, greatest_good_parts, kind_of, rings_of_three

NUMBERS = Numbers(361)
OTHERS = [some_pairs(NUMBERS, 6 + at % 3) for at in range(300)]
PAIRS = ALL_OF_FIVE + OTHERS
THREE, RING = ((0, 1), (2, 3), (4, 5)), ((0, 1), (0, 2), (1, 2), (3, 4))


def plain_threes(pairs):
    return sorted([row for row in permutations(pairs, 3) if row == tuple(sorted(row)) and len(set(sum(row, ()))) == 6])


def plain_rings(pairs):
    return sorted([ring for ring in combinations(range(8), 3) if all([pair in pairs for pair in combinations(ring, 2)])])


def plain_besides(pairs):
    return sorted([(ring, pair) for ring in plain_rings(pairs) for pair in pairs if not set(ring) & set(pair)])


def plain_parts(pairs):
    return [part for many in range(1, len(pairs) + 1) for part in combinations(pairs, many)]


def plain_bad(pairs):
    """By the words: not good, while with any one left out it is good, or none is left."""
    found = []
    for part in plain_parts(pairs):
        less = [part[:at] + part[at + 1:] for at in range(len(part))]
        if not is_plainly_good(part) and all([other == () or is_plainly_good(other) for other in less]):
            found.append(part)
    return sorted(found)


def plain_greatest(pairs):
    good = [part for part in plain_parts(pairs) if is_plainly_good(part)]
    return sorted([part for part in good if not any([set(part) < set(other) for other in good])])


class Apart(unittest.TestCase):
    def test_111_against_all_choices(self):
        seen = []
        for pairs in PAIRS:
            self.assertEqual(apart_threes(pairs), plain_threes(pairs))
            self.assertEqual(rings_of_three(pairs), plain_rings(pairs))
            self.assertEqual(besides(pairs), plain_besides(pairs))
            seen.append([apart_threes(pairs) == [], rings_of_three(pairs) == [], besides(pairs) == []])
        for column in zip(*seen):
            self.assertGreater(min(column.count(True), column.count(False)), 20)

    def test_111_by_hand(self):
        self.assertEqual(apart_threes(((0, 1), (2, 3), (4, 5), (6, 7))), [
            ((0, 1), (2, 3), (4, 5)), ((0, 1), (2, 3), (6, 7)), ((0, 1), (4, 5), (6, 7)), ((2, 3), (4, 5), (6, 7))])
        self.assertEqual([apart_threes(THREE[:2]), apart_threes(((0, 1), (1, 2), (3, 4))), rings_of_three(RING[:2]), besides(RING[:3])],
                         [[], [], [], []])
        four = tuple(combinations(range(4), 2))
        self.assertEqual(rings_of_three(four), [(0, 1, 2), (0, 1, 3), (0, 2, 3), (1, 2, 3)])
        self.assertEqual(besides(((0, 1), (0, 2), (1, 2), (1, 3), (3, 4), (5, 6))), [((0, 1, 2), (3, 4)), ((0, 1, 2), (5, 6))])


class Kinds(unittest.TestCase):
    def test_112_the_first_that_holds(self):
        words = []
        for pairs in PAIRS:
            if plain_hubs(pairs) is not None:
                kind = ("hubs", plain_hubs(pairs))
            elif len(members(pairs)) <= 4:
                kind = ("four", tuple(members(pairs)))
            elif plain_ring(pairs) is not None:
                kind = ("ring", plain_ring(pairs))
            elif plain_threes(pairs):
                kind = ("apart", plain_threes(pairs)[0])
            else:
                kind = ("beside",) + plain_besides(pairs)[0]
            self.assertEqual(kind_of(pairs), kind)
            words.append(kind[0])
        for word in ("hubs", "four", "ring", "apart", "beside"):
            self.assertGreater(words.count(word), 4)

    def test_112_good_exactly_without_apart_and_beside(self):
        for pairs in PAIRS:
            bad = plain_threes(pairs) != [] or plain_besides(pairs) != []
            self.assertEqual(kind_of(pairs)[0] in ("apart", "beside"), bad)
            self.assertIs(are_good(pairs), not bad)

    def test_117_by_hand(self):
        self.assertEqual([kind_of(THREE), kind_of(RING), kind_of(((0, 1), (0, 2), (3, 4))), kind_of(((5, 7),))],
                         [("apart", THREE), ("beside", (0, 1, 2), (3, 4)), ("hubs", (0, 3)), ("hubs", (5, 7))])
        self.assertEqual(kind_of(tuple(combinations(range(4), 2))), ("four", (0, 1, 2, 3)))
        self.assertEqual(kind_of(((0, 1), (0, 4), (1, 2), (2, 3), (3, 4))), ("ring", (0, 1, 2, 3, 4)))
        # Three apart and a ring beside: apart comes first.
        self.assertEqual(kind_of(((0, 1), (0, 2), (1, 2), (3, 4), (5, 6))), ("apart", ((0, 1), (3, 4), (5, 6))))
        self.assertEqual(besides(((0, 1), (0, 2), (1, 2), (3, 4), (5, 6)))[0], ((0, 1, 2), (3, 4)))


class Parts(unittest.TestCase):
    def test_113_against_all_parts(self):
        seen = []
        for pairs in PAIRS[::2]:
            self.assertEqual(bad_parts(pairs), plain_bad(pairs))
            self.assertEqual(greatest_good_parts(pairs), plain_greatest(pairs))
            if is_plainly_good(pairs):
                self.assertEqual([bad_parts(pairs), greatest_good_parts(pairs)], [[], [pairs]])
            seen.append(len(bad_parts(pairs)))
        self.assertGreater(len(set(seen)), 2)

    def test_113_threes_and_rings_together_sorted(self):
        pairs = ((0, 1), (0, 2), (1, 2), (3, 4), (5, 6))
        self.assertEqual(bad_parts(pairs), sorted([
            ((0, 1), (3, 4), (5, 6)), ((0, 2), (3, 4), (5, 6)), ((1, 2), (3, 4), (5, 6)), ((0, 1), (0, 2), (1, 2), (3, 4)),
            ((0, 1), (0, 2), (1, 2), (5, 6))]))
        # The pair stands where it is sorted to, ahead of the ring's or between them.
        self.assertEqual(bad_parts(((0, 1), (2, 3), (2, 4), (3, 4))), [((0, 1), (2, 3), (2, 4), (3, 4))])
        self.assertEqual(bad_parts(((0, 2), (0, 4), (1, 3), (2, 4))), [((0, 2), (0, 4), (1, 3), (2, 4))])
        self.assertEqual(greatest_good_parts(THREE), [THREE[:2], (THREE[0], THREE[2]), THREE[1:]])

    def test_115_cuts_are_enough_for_good_pairs(self):
        numbers = Numbers(362)
        served = 0
        for web in some_webs(70, seed=363):
            pairs = some_pairs(numbers, web[1])
            wishes = tuple([pair + (1 + numbers.below(3),) for pair in pairs])
            if kind_of(pairs)[0] in ("hubs", "four", "ring"):
                self.assertIs(is_served(web, wishes), over(web, wishes) == [])
                served += is_served(web, wishes)
        self.assertGreater(served, 10)

    def test_115_and_not_for_others(self):
        both = ("web", 5, ((0, 3, 1), (0, 4, 1), (1, 3, 1), (1, 4, 1), (2, 3, 1), (2, 4, 1)))
        wishes = tuple([pair + (1,) for pair in RING])
        self.assertEqual([over(both, wishes), is_served(both, wishes)], [[], False])

    def test_111_any_value(self):
        for value in NOT_PAIRS:
            for function in (apart_threes, rings_of_three, besides, kind_of, bad_parts, greatest_good_parts):
                with self.assertRaises(InvalidPairs) as caught:
                    function(value)
                self.assertIs(caught.exception.value, value)


if __name__ == "__main__":
    unittest.main()
