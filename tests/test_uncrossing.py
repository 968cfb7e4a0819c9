"""Cuts that cross, and laminar lists: [36], [37], [38]."""

import unittest
from itertools import combinations

from samples import LEAST, LINE, NOT_CUTS, RING, STRANGE, TOUCHY, WHEEL, Numbers, plain_cuts, plain_sum, some_webs
from wishways.cuts import all_cuts, room_of_cut
from wishways.errors import InvalidCut, InvalidCuts
from wishways.uncrossing import cuts_cross, holders, is_laminar, made_laminar, uncrossed

SIX = ("web", 6, ((0, 1, 2), (0, 2, 3), (0, 5, 1), (1, 2, 1), (2, 3, 4), (3, 4, 1), (3, 5, 2)))
NOT_LISTS = [value for value in STRANGE if not isinstance(value, (list, tuple)) or len(value) > 0] + [
    [(0,)], [(1,), (4,)], [(1,), [2]], [(1,), (2, 1)], [(1,), None], [(1,), (1, True)], {(1,)}, {(1,): 1}, [(1,)] * 13, (1, 2),
    [(1,), ()], [TOUCHY], [(1,), TOUCHY], ((1,),) * 13, "12"]


def plain_cross(cut, second):
    one, other = set(cut), set(second)
    return bool(one & other) and bool(one - other) and bool(other - one)


def plain_made(cuts):
    """As the document tells it, by all pairs of positions."""
    cuts = sorted(cuts)
    while True:
        pairs = [(low, high) for low, high in combinations(range(len(cuts)), 2) if plain_cross(cuts[low], cuts[high])]
        if not pairs:
            return cuts
        low, high = min(pairs)
        one, other = set(cuts[low]), set(cuts[high])
        cuts = [cut for at, cut in enumerate(cuts) if at not in (low, high)]
        cuts = sorted(cuts + [tuple(sorted(one & other)), tuple(sorted(one | other))])


def some_lists(count, seed, most=12):
    numbers = Numbers(seed)
    made = []
    for web in some_webs(count, seed):
        cuts = plain_cuts(web[1])
        made.append((web, [cuts[numbers.below(len(cuts))] for _ in range(numbers.below(most + 1))]))
    return made


class Cross(unittest.TestCase):
    def test_36_all_two_cuts(self):
        for web in [LEAST, LINE, RING, SIX]:
            for cut in all_cuts(web):
                for second in all_cuts(web):
                    so = plain_cross(cut, second)
                    self.assertIs(cuts_cross(web, cut, second), so)
                    if so:
                        become = (tuple(sorted(set(cut) & set(second))), tuple(sorted(set(cut) | set(second))))
                        self.assertEqual(uncrossed(web, cut, second), become)
                        self.assertLessEqual(sum([room_of_cut(web, kept) for kept in become]),
                                             room_of_cut(web, cut) + room_of_cut(web, second))
                    else:
                        self.assertEqual(uncrossed(web, cut, second), (cut, second))

    def test_38_example(self):
        self.assertEqual([room_of_cut(RING, cut) for cut in [(1, 2), (2, 3), (2,), (1, 2, 3)]], [4, 2, 3, 3])
        self.assertEqual(uncrossed(RING, (2, 3), (1, 2)), ((2,), (1, 2, 3)))

    def test_36_sequence_of_those_that_do_not_cross(self):
        self.assertEqual(uncrossed(RING, (3,), (1,)), ((3,), (1,)))
        self.assertEqual(uncrossed(RING, (1, 2), (1,)), ((1, 2), (1,)))
        self.assertEqual(uncrossed(RING, (1, 2), (1, 2)), ((1, 2), (1, 2)))

    def test_36_wrong_cuts(self):
        for function in (cuts_cross, uncrossed):
            for cut in NOT_CUTS + [(4,)]:
                for told in [(cut, (1,)), (cut, None), ((1,), cut)]:
                    with self.assertRaises(InvalidCut) as caught:
                        function(RING, *told)
                    self.assertIs(caught.exception.value, cut)


class Laminar(unittest.TestCase):
    def test_37_is_laminar(self):
        told = []
        for web, cuts in some_lists(150, seed=41, most=4):
            so = not any([plain_cross(cut, second) for cut, second in combinations(cuts, 2)])
            self.assertIs(is_laminar(web, cuts), so)
            told.append(so and len(cuts) > 2)
        self.assertIn(True, told)
        self.assertIn(False, told)

    def test_37_few_and_doubles(self):
        for cuts in [[], (), [(1,)], [(1,), (1,)], [(1, 2), (1, 2), (3,)], [(2,), (1, 2)], [(1,), (2,), (3,), (1, 2, 3)]]:
            self.assertIs(is_laminar(RING, cuts), True)
            self.assertEqual(made_laminar(RING, cuts), sorted(cuts))
        self.assertIs(is_laminar(RING, [(3,), (1, 2), (1, 2), (2, 3)]), False)

    def test_37_made(self):
        for web, cuts in some_lists(150, seed=42):
            made = made_laminar(web, cuts)
            self.assertEqual(made, plain_made(cuts))
            self.assertIs(type(made), list)
            self.assertIs(is_laminar(web, made), True)
            self.assertEqual(len(made), len(cuts))
            self.assertLessEqual(sum([plain_sum(web[2], cut) for cut in made]), sum([plain_sum(web[2], cut) for cut in cuts]))
            for place in range(web[1]):
                self.assertEqual(sum([place in cut for cut in made]), sum([place in cut for cut in cuts]))

    def test_37_first_pair_of_positions(self):
        # Another choice of two that cross ends otherwise.
        cuts = [(1, 2, 3), (1, 4), (2, 5), (3, 4, 5)]
        self.assertEqual(made_laminar(SIX, cuts), plain_made(cuts))
        cuts = [(1, 3), (2, 3), (1, 2, 4), (4, 5)]
        self.assertEqual(made_laminar(SIX, cuts), plain_made(cuts))
        for cuts in [[(1, 2), (1, 3), (2, 3)], [(2, 3), (1, 2), (1, 3)], [(1, 3), (2, 3), (1, 2)]]:
            self.assertEqual(made_laminar(RING, cuts), [(1,), (1, 2, 3), (2, 3)])

    def test_37_twelve_and_thirteen(self):
        twelve = all_cuts(WHEEL)[5:125:10]
        self.assertEqual(len(twelve), 12)
        self.assertEqual(made_laminar(WHEEL, twelve), plain_made(twelve))
        self.assertIs(is_laminar(WHEEL, twelve), False)
        self.assertIs(is_laminar(WHEEL, [(1,)] * 12), True)
        self.assertEqual(holders(WHEEL, [tuple(range(1, most)) for most in range(2, 9)]), [1, 2, 3, 4, 5, 6, None])
        thirteen = twelve + [(1,)]
        for function in (is_laminar, made_laminar, holders):
            with self.assertRaises(InvalidCuts) as caught:
                function(WHEEL, thirteen)
            self.assertIs(caught.exception.value, thirteen)

    def test_37_wrong_lists(self):
        for function in (is_laminar, made_laminar, holders):
            for cuts in NOT_LISTS:
                with self.assertRaises(InvalidCuts) as caught:
                    function(RING, cuts)
                self.assertIs(caught.exception.value, cuts)


class Holders(unittest.TestCase):
    def test_37_fewest_places_of_those_with_more(self):
        for web, cuts in some_lists(150, seed=43):
            cuts = sorted(set(made_laminar(web, cuts)))
            told = holders(web, cuts)
            self.assertEqual(len(told), len(cuts))
            for at, cut in enumerate(cuts):
                wider = [second for second in cuts if set(cut) < set(second)]
                self.assertEqual(told[at], cuts.index(min(wider, key=len)) if wider else None)

    def test_37_lists_without_holders(self):
        for cuts in [[(2,), (1,)], [(1,), (1,)], [(1, 2), (2, 3)], ((1, 2), (1, 2, 3), (1, 3)), [(1,), (2,), (1, 2)]]:
            with self.assertRaises(InvalidCuts) as caught:
                holders(RING, cuts)
            self.assertIs(caught.exception.value, cuts)

    def test_37_few(self):
        self.assertEqual([holders(RING, []), holders(RING, [(1,)]), holders(RING, ((1,), (2,))), holders(RING, ((1,), (1, 2)))],
                         [[], [None], [None, None], [1, None]])


if __name__ == "__main__":
    unittest.main()
