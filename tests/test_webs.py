"""Webs, pairs, wishes, and what is told of them: [5], [21]."""

import unittest
from itertools import permutations

from samples import (BOTH, KITE, LEAST, LINE, NOT_WEBS, NOT_WISHES, RING, STRANGE, WHEEL, Numbers, plain_joined,
                           some_traffic, some_webs)
from wishways.errors import InvalidMany, InvalidOrder, InvalidPlace, InvalidRows, InvalidTies, InvalidWishes
from wishways.webs import (is_pairs, is_traffic, is_web, is_wishes, made_web, made_wishes, neighbours, pairs_of, renumbered,
                           room_at, room_between, wish_at)

NOT_PAIRS = STRANGE + [[(0, 1)], ([0, 1],), ((0,),), ((0, 1, 2),), ((1, 0),), ((1, 1),), ((0, 8),), ((-1, 1),), ((0, True),),
                       ((False, 1),), ((0, 1), (0, 1)), ((0, 2), (0, 1)), ((0, 1), None), ((0, None),), ("01",),
                       tuple([(0, place) for place in range(1, 8)]), ((0, 1), (1, 0))]


class IsWeb(unittest.TestCase):
    def test_5_webs(self):
        for value in [LEAST, LINE, RING, KITE, BOTH, WHEEL, ("web", 2, ((0, 1, 20),))] + some_webs(40):
            self.assertIs(is_web(value), True, value)

    def test_5_others(self):
        for value in NOT_WEBS:
            self.assertIs(is_web(value), False, repr(type(value)))

    def test_5_rooms(self):
        for room, so in [(0, False), (1, True), (20, True), (21, False), (-1, False), (True, False), (None, False)]:
            self.assertIs(is_web(("web", 2, ((0, 1, room),))), so)

    def test_5_many(self):
        for many, so in [(0, False), (1, False), (2, True), (3, True), (8, True), (9, False)]:
            ties = tuple([(0, place, 1) for place in range(1, many)])
            self.assertIs(is_web(("web", many, ties)), so)

    def test_5_fourteen_ties(self):
        pairs = [(one, other, 1) for one in range(8) for other in range(one + 1, 8)]
        self.assertIs(is_web(("web", 8, tuple(pairs[:14]))), True)
        self.assertIs(is_web(("web", 8, tuple(pairs[:15]))), False)
        self.assertIs(is_web(("web", 6, tuple([tie for tie in pairs if tie[1] < 6]))), False)

    def test_5_joined(self):
        numbers = Numbers(7)
        told = []
        for _ in range(300):
            many = 2 + numbers.below(7)
            pairs = [(one, other) for one in range(many) for other in range(one + 1, many) if numbers.below(3) == 0]
            ties = tuple([pair + (1,) for pair in pairs])[:14]
            if ties:
                told.append(plain_joined(range(many), [tie[:2] for tie in ties]))
                self.assertIs(is_web(("web", many, ties)), told[-1])
        self.assertIn(True, told)
        self.assertIn(False, told)


class Wishes(unittest.TestCase):
    def test_5_wishes(self):
        for value in [((0, 1, 1),), ((0, 7, 20),), ((6, 7, 3),), tuple([(0, place, 1) for place in range(1, 7)])]:
            self.assertIs(is_wishes(value), True, value)

    def test_5_others(self):
        for value in NOT_WISHES:
            self.assertIs(is_wishes(value), False, repr(type(value)))

    def test_5_of_a_web(self):
        self.assertIs(is_traffic(LINE, ((0, 2, 20),)), True)
        self.assertIs(is_traffic(LINE, ((0, 3, 1),)), False)
        self.assertIs(is_traffic(LINE, ((0, 1, 1), (2, 3, 1))), False)
        self.assertIs(is_traffic(WHEEL, ((0, 7, 20),)), True)
        for web, wishes in some_traffic(40):
            self.assertIs(is_traffic(web, wishes), True)

    def test_5_traffic_of_any_values(self):
        for value in NOT_WEBS:
            self.assertIs(is_traffic(value, ((0, 1, 1),)), False)
            self.assertIs(is_traffic(LINE, value), False)
        for value in NOT_WISHES:
            self.assertIs(is_traffic(WHEEL, value), False)

    def test_5_pairs(self):
        for value in [((0, 1),), ((0, 7),), ((0, 1), (0, 2)), ((0, 2), (1, 2)), tuple([(0, place) for place in range(1, 7)])]:
            self.assertIs(is_pairs(value), True, value)

    def test_5_not_pairs(self):
        for value in NOT_PAIRS:
            self.assertIs(is_pairs(value), False, repr(type(value)))


class Made(unittest.TestCase):
    def test_21_any_sequence_either_way_round(self):
        for turned in range(8):
            ties = [(1, 0, 3) if turned & 1 else (0, 1, 3), (2, 1, 4) if turned & 2 else (1, 2, 4),
                    (2, 0, 5) if turned & 4 else (0, 2, 5)]
            for told in permutations(ties):
                self.assertEqual(made_web(3, list(told)), ("web", 3, ((0, 1, 3), (0, 2, 5), (1, 2, 4))))
                self.assertEqual(made_wishes(told), ((0, 1, 3), (0, 2, 5), (1, 2, 4)))

    def test_21_made_of_made(self):
        for web, wishes in some_traffic(40, seed=2):
            self.assertEqual(made_web(web[1], list(web[2])[::-1]), web)
            self.assertEqual(made_wishes([(other, one, wish) for one, other, wish in wishes]), wishes)

    def test_21_wrong_many(self):
        for many in [1, 9, True, None]:
            with self.assertRaises(InvalidMany) as caught:
                made_web(many, None)
            self.assertIs(caught.exception.value, many)

    def test_21_wrong_ties(self):
        pairs = [(other, one, 1) for one in range(8) for other in range(one + 1, 8)]
        self.assertEqual(len(made_web(8, pairs[:14])[2]), 14)
        for many, ties in [(8, pairs[:15]), (4, [(0, 1, 1), (2, 3, 1)]), (3, [(1, 0, 1), (2, 1, 1), (0, 1, 2)]), (2, []),
                           (2, [(0, 1, 0)]), (2, [(0, 1, 21)]), (2, [(0, 2, 1)]), (2, [(1, 1, 1)]), (2, [[0, 1, 1]])]:
            with self.assertRaises(InvalidTies) as caught:
                made_web(many, ties)
            self.assertIs(caught.exception.value, ties)

    def test_21_wrong_wishes(self):
        for wishes in [[], [(0, 1, 1), (1, 0, 2)], [(0, 8, 1)], [(0, 1, 21)], [[0, 1, 1]], [(0, 1, 1), (0, 0, 1)]]:
            with self.assertRaises(InvalidRows) as caught:
                made_wishes(wishes)
            self.assertIs(caught.exception.value, wishes)
        seven = [(place, 0, 1) for place in range(1, 8)]
        self.assertEqual(len(made_wishes(seven[:6])), 6)
        with self.assertRaises(InvalidRows):
            made_wishes(seven)


class Told(unittest.TestCase):
    def test_21_rooms_and_neighbours(self):
        for web in some_webs(40, seed=3) + [LEAST, WHEEL]:
            rooms = {}
            for one, other, room in web[2]:
                rooms[(one, other)] = rooms[(other, one)] = room
            for one in range(web[1]):
                self.assertEqual(neighbours(web, one), sorted([far for near, far in rooms if near == one]))
                self.assertEqual(room_at(web, one), sum([room for pair, room in rooms.items() if pair[0] == one]))
                for other in range(web[1]):
                    self.assertEqual(room_between(web, one, other), rooms.get((one, other), 0))

    def test_21_wish_at(self):
        for web, wishes in some_traffic(40, seed=4):
            for place in range(web[1]):
                asked = [wish[2] for wish in wishes if place == wish[0]] + [wish[2] for wish in wishes if place == wish[1]]
                self.assertEqual(wish_at(web, wishes, place), sum(asked))

    def test_21_pairs_of(self):
        self.assertEqual(pairs_of(((0, 2, 5), (6, 7, 1))), ((0, 2), (6, 7)))
        for _, wishes in some_traffic(20, seed=5):
            self.assertIs(is_pairs(pairs_of(wishes)), True)
            self.assertEqual(pairs_of(wishes), tuple([(one, other) for one, other, _ in wishes]))

    def test_2_first_error(self):
        with self.assertRaises(InvalidPlace) as caught:
            room_between(LINE, 3, 4)
        self.assertEqual(caught.exception.value, 3)
        with self.assertRaises(InvalidPlace) as caught:
            room_between(LINE, 2, True)
        self.assertIs(caught.exception.value, True)
        with self.assertRaises(InvalidWishes):
            wish_at(LINE, ((0, 3, 1),), 3)


class Renumbered(unittest.TestCase):
    def test_21_entries_of_the_order(self):
        for web, wishes in some_traffic(60, seed=6):
            numbers = Numbers(web[1])
            places = list(range(web[1]))
            order = [places.pop(numbers.below(len(places))) for _ in range(web[1])]
            new_web, new_wishes = renumbered(web, wishes, order)
            self.assertIs(is_traffic(new_web, new_wishes), True)
            for one in range(web[1]):
                self.assertEqual(wish_at(new_web, new_wishes, one), wish_at(web, wishes, order[one]))
                for other in range(web[1]):
                    self.assertEqual(room_between(new_web, one, other), room_between(web, order[one], order[other]))
            asked = {(one, other): wish for one, other, wish in wishes}
            for one, other, wish in new_wishes:
                pair = tuple(sorted((order[one], order[other])))
                self.assertEqual(asked.pop(pair), wish)
            self.assertEqual(asked, {})

    def test_21_there_and_back(self):
        for web, wishes in some_traffic(40, seed=8):
            numbers = Numbers(web[1] + 9)
            places = list(range(web[1]))
            order = [places.pop(numbers.below(len(places))) for _ in range(web[1])]
            back = [order.index(place) for place in range(web[1])]
            self.assertEqual(renumbered(*renumbered(web, wishes, order), back), (web, wishes))
            self.assertEqual(renumbered(web, wishes, tuple(range(web[1]))), (web, wishes))

    def test_21_wrong_orders(self):
        for order in [[], [0, 1], [0, 1, 2, 3], [0, 1, 1], [1, 2, 3], [0, True, 2], [False, 1, 2], "012", None, {0, 1, 2},
                      range(3), [0, 1, -1], [[0], [1], [2]]]:
            with self.assertRaises(InvalidOrder) as caught:
                renumbered(LINE, ((0, 2, 1),), order)
            self.assertIs(caught.exception.value, order)
        with self.assertRaises(InvalidWishes):
            renumbered(LINE, ((0, 3, 1),), [])


if __name__ == "__main__":
    unittest.main()
