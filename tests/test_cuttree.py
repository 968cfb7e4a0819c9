"""Trees and cut trees: [45]."""

import unittest
from itertools import combinations, product

from samples import (BOTH, KITE, LEAST, LINE, RING, STRANGE, TOUCHY, WHEEL, plain_joined, plain_least, plain_sum, plain_ways,
                     some_webs, twos)
from wishways.cuttree import cut_by_tree, cut_tree, is_cut_tree, is_tree, least_by_tree
from wishways.errors import InvalidPlace, InvalidTree

WEBS = [LEAST, LINE, RING, KITE, BOTH, WHEEL] + some_webs(70, seed=71)
TREE, STAR = ((0, 1, 3), (1, 2, 3), (2, 3, 3)), ((0, 1, 3), (0, 2, 3), (0, 3, 3))
NOT_TREES = STRANGE + [
    list(TREE), ([0, 1, 3], (1, 2, 3), (2, 3, 3)), TREE[:2], TREE + ((2, 3, 4),), ((1, 2, 3), (0, 1, 3), (2, 3, 3)),
    ((0, 1, 3), (0, 1, 4), (2, 3, 3)), ((0, 1, 3), (0, 1, 3), (2, 3, 3)), ((0, 1, 3), (0, 2, 3), (1, 2, 3)),
    ((0, 1, 3), (1, 2, 3), (2, 3, 0)), ((0, 1, 3), (1, 2, 3), (2, 3, True)), ((0, 1, 3), (1, 2, 3), (3, 2, 3)),
    ((0, 1, 3), (1, 2, 3), (2, 4, 3)), ((0, 1, 3), (1, 2, 3), (2, 3)), ((0, 1, 3), (1, 2, 3), (2, 3, 3, 3)),
    ((0, 1, 3), (1, 2, 3), (2, 3, None)), ((0, 1, 3), (True, 2, 3), (2, 3, 3)), ((False, 1, 3), (1, 2, 3), (2, 3, 3)),
    ((-1, 1, 3), (1, 2, 3), (2, 3, 3)), ((0, 1, -3), (1, 2, 3), (2, 3, 3)), ((1, 1, 3), (1, 2, 3), (2, 3, 3)), (TOUCHY,) * 3,
    ((TOUCHY, 1, 3), (1, 2, 3), (2, 3, 3)), ((0, 1, 3), (1, 2, 3), None), ((0, 1, 3), (1, 2, 3), (2, 3, "3"))]


def branches(web, tree, one, other):
    """The tuples between two places, as they stand in the tree, each with the cut of its parting."""
    between = []
    for at, branch in enumerate(tree):
        others = tree[:at] + tree[at + 1:]
        if plain_ways(("web", web[1], others), one, other) == []:
            side = [place for place in range(web[1])
                    if place != branch[0] and plain_ways(("web", web[1], others), branch[0], place) == []]
            cut = side if 0 not in side else [place for place in range(web[1]) if place not in side]
            between.append((branch[2], tuple(sorted(cut))))
    return between


def plain_is_cut_tree(web, tree):
    return all([branches(web, tree, one, other) == [(much, branches(web, tree, one, other)[0][1])]
                and plain_sum(web[2], branches(web, tree, one, other)[0][1]) == much == plain_least(web, one, other)[1]
                for one, other, much in tree])


def some_trees(web, rooms):
    """All trees of a web whose numbers are of the rooms."""
    pairs = list(combinations(range(web[1]), 2))
    for lot in combinations(pairs, web[1] - 1):
        if plain_joined(range(web[1]), lot):
            for much in product(rooms, repeat=web[1] - 1):
                yield tuple([pair + (room,) for pair, room in zip(lot, much)])


class Trees(unittest.TestCase):
    def test_45_is_tree(self):
        for tree in [TREE, STAR, ((0, 1, 1), (0, 2, 10 ** 39), (1, 3, 2))]:
            self.assertIs(is_tree(KITE, tree), True)
        self.assertIs(is_tree(LEAST, ((0, 1, 5),)), True)
        self.assertIs(is_tree(LINE, ((0, 2, 1), (1, 2, 1))), True)

    def test_45_any_value(self):
        for value in NOT_TREES:
            self.assertIs(is_tree(KITE, value), False)
            self.assertIs(is_cut_tree(KITE, value), False)

    def test_45_all_trees_of_small_webs(self):
        told = []
        for web in [LINE, ("web", 3, ((0, 1, 1), (0, 2, 1), (1, 2, 1))), RING, KITE]:
            rooms = sorted({plain_least(web, one, other)[1] for one, other in twos(web[1])})
            for tree in some_trees(web, rooms + [1, 6]):
                self.assertIs(is_tree(web, tree), True)
                told.append(is_cut_tree(web, tree))
                self.assertIs(told[-1], plain_is_cut_tree(web, tree))
        self.assertIn(True, told)
        self.assertIn(False, told)

    def test_45_much_and_least(self):
        # Of two roads of three places each much is its parting's room, but not the least one of its two places.
        web = ("web", 3, ((0, 1, 1), (0, 2, 5), (1, 2, 1)))
        self.assertIs(is_cut_tree(web, ((0, 1, 2), (0, 2, 6))), True)
        self.assertIs(is_cut_tree(web, ((0, 1, 6), (1, 2, 6))), False)
        self.assertIs(is_cut_tree(web, ((0, 1, 2), (0, 2, 5))), False)
        self.assertIs(is_cut_tree(web, ((0, 1, 6), (1, 2, 2))), False)


class CutTrees(unittest.TestCase):
    def test_45_told_trees(self):
        for web in WEBS:
            tree = cut_tree(web)
            self.assertIs(is_tree(web, tree), True)
            self.assertIs(is_cut_tree(web, tree), True)
            self.assertIs(plain_is_cut_tree(web, tree), True)

    def test_45_every_two_places(self):
        for web in WEBS[:40]:
            tree = cut_tree(web)
            for one, other in twos(web[1]):
                cuts, room = plain_least(web, one, other)
                self.assertEqual(least_by_tree(web, tree, one, other), room)
                cut = cut_by_tree(web, tree, one, other)
                self.assertIn(cut, cuts)
                between = branches(web, tree, one, other)
                self.assertEqual(cut, [parting for much, parting in between if much == room][0])

    def test_45_any_cut_tree(self):
        for web in [LINE, RING, KITE]:
            rooms = sorted({plain_least(web, one, other)[1] for one, other in twos(web[1])})
            for tree in some_trees(web, rooms):
                if is_cut_tree(web, tree):
                    for one, other in twos(web[1]):
                        between = branches(web, tree, one, other)
                        least = min([much for much, _ in between])
                        self.assertEqual(least_by_tree(web, tree, one, other), least)
                        self.assertEqual(cut_by_tree(web, tree, one, other), [cut for much, cut in between if much == least][0])

    def test_45_wrong_trees(self):
        for function in (least_by_tree, cut_by_tree):
            for tree in NOT_TREES + [STAR, ((0, 1, 3), (1, 2, 3), (2, 3, 2))]:
                with self.assertRaises(InvalidTree) as caught:
                    function(KITE, tree, 4, 4)
                self.assertIs(caught.exception.value, tree)

    def test_45_like_places_are_refused(self):
        for function in (least_by_tree, cut_by_tree):
            for one, other, value in [(2, 2, 2), (4, 2, 4), (2, 4, 4), (2, True, True), (None, None, None)]:
                with self.assertRaises(InvalidPlace) as caught:
                    function(KITE, TREE, one, other)
                self.assertIs(caught.exception.value, value)


if __name__ == "__main__":
    unittest.main()
