"""All cuts, their rooms and what wishes ask of them: [6], [31], [32]."""

import unittest
from itertools import combinations, permutations

from samples import KITE, LEAST, LINE, NOT_CUTS, RING, STRANGE, TOUCHY, WHEEL, plain_cuts, plain_sum, some_traffic, some_webs
from wishways.cuts import (all_cuts, crossing_ties, cut_of, has_room_everywhere, least_slack, over_asked, room_of_cut, slack,
                           tight_cuts, wish_of_cut)
from wishways.errors import InvalidCut, InvalidSide, InvalidWishes


class AllCuts(unittest.TestCase):
    def test_31_two_three_and_eight_places(self):
        self.assertEqual(all_cuts(LEAST), [(1,)])
        self.assertEqual(all_cuts(LINE), [(1,), (1, 2), (2,)])
        self.assertEqual(len(all_cuts(WHEEL)), 127)

    def test_31_each_once_and_sorted(self):
        for web in some_webs(14):
            self.assertEqual(all_cuts(web), sorted(plain_cuts(web[1])))
            self.assertEqual(len(set(all_cuts(web))), 2 ** (web[1] - 1) - 1)


class CutOf(unittest.TestCase):
    def test_31_every_lot_in_every_sequence(self):
        for web in [LEAST, LINE, RING, ("web", 5, tuple([(0, place, 1) for place in range(1, 5)]))]:
            places = range(web[1])
            for many in range(1, web[1]):
                for lot in combinations(places, many):
                    others = tuple([place for place in places if place not in lot])
                    cut = others if 0 in lot else lot
                    for told in permutations(lot):
                        self.assertEqual(cut_of(web, list(told)), cut)
                        self.assertEqual(cut_of(web, told), cut)
                    self.assertEqual(cut_of(web, list(others)), cut)

    def test_31_wrong_sides(self):
        for side in STRANGE + [[], [0, 1, 2, 3], [0, 0], [1, 1, 2], [1, 4], [-1, 2], [True], [0, False], [1, None], ["1"], "12", [4, 1], [2, -1],
                               {1: 1}, {1, 2}, range(2), [[1]], [TOUCHY, 1], (1, TOUCHY), [0, 1, 2, 3, 3]]:
            with self.assertRaises(InvalidSide) as caught:
                cut_of(RING, side)
            self.assertIs(caught.exception.value, side)


class Rooms(unittest.TestCase):
    def test_6_rooms_wishes_slacks(self):
        for web, wishes in some_traffic(28, seed=21):
            for cut in plain_cuts(web[1]):
                room, wish = plain_sum(web[2], cut), plain_sum(wishes, cut)
                self.assertEqual(room_of_cut(web, cut), room)
                self.assertEqual(wish_of_cut(web, wishes, cut), wish)
                self.assertEqual(slack(web, wishes, cut), room - wish)
                crossing = [at for at, tie in enumerate(web[2]) if plain_sum([tie], cut)]
                self.assertEqual(crossing_ties(web, cut), crossing)

    def test_6_room_of_one_place(self):
        self.assertEqual([room_of_cut(RING, (place,)) for place in (1, 2, 3)], [3, 3, 3])
        self.assertEqual([room_of_cut(RING, (1, 2, 3)), room_of_cut(RING, (1, 3)), room_of_cut(RING, (1, 2))], [3, 6, 4])
        self.assertEqual(wish_of_cut(RING, ((1, 2, 5),), (1, 2)), 0)
        self.assertEqual(wish_of_cut(RING, ((1, 2, 5),), (3,)), 0)

    def test_31_wrong_cuts(self):
        for cut in NOT_CUTS + [(4,), (1, 4), (1, 2, 3, 4), (0, 1, 2, 3)]:
            for call in [(crossing_ties, RING), (room_of_cut, RING), (wish_of_cut, RING, ((0, 1, 1),)), (slack, RING, ((0, 1, 1),))]:
                with self.assertRaises(InvalidCut) as caught:
                    call[0](*call[1:], cut)
                self.assertIs(caught.exception.value, cut)

    def test_2_wishes_are_checked_ahead_of_the_cut(self):
        for function in (wish_of_cut, slack):
            with self.assertRaises(InvalidWishes):
                function(RING, ((0, 4, 1),), (0,))


class Asked(unittest.TestCase):
    def test_32_by_a_look_at_all_cuts(self):
        told = []
        for web, wishes in some_traffic(120, seed=22):
            left = {cut: plain_sum(web[2], cut) - plain_sum(wishes, cut) for cut in plain_cuts(web[1])}
            self.assertEqual(over_asked(web, wishes), sorted([cut for cut in left if left[cut] < 0]))
            self.assertEqual(tight_cuts(web, wishes), sorted([cut for cut in left if left[cut] == 0]))
            self.assertIs(has_room_everywhere(web, wishes), min(left.values()) >= 0)
            self.assertEqual(least_slack(web, wishes), min([(left[cut], cut) for cut in left])[::-1])
            told.append(has_room_everywhere(web, wishes))
        self.assertIn(True, told)
        self.assertIn(False, told)

    def test_32_at_the_room(self):
        self.assertEqual([over_asked(LEAST, ((0, 1, 1),)), tight_cuts(LEAST, ((0, 1, 1),)), least_slack(LEAST, ((0, 1, 1),))],
                         [[], [(1,)], ((1,), 0)])
        self.assertEqual([over_asked(LEAST, ((0, 1, 2),)), tight_cuts(LEAST, ((0, 1, 2),)), least_slack(LEAST, ((0, 1, 2),))],
                         [[(1,)], [], ((1,), -1)])
        self.assertIs(has_room_everywhere(LEAST, ((0, 1, 1),)), True)
        self.assertIs(has_room_everywhere(LEAST, ((0, 1, 2),)), False)

    def test_32_first_with_the_least_slack(self):
        web = ("web", 4, ((0, 1, 2), (0, 2, 2), (0, 3, 2)))
        self.assertEqual(least_slack(web, ((1, 2, 1),)), ((1,), 1))
        self.assertEqual(least_slack(web, ((2, 3, 1),)), ((2,), 1))
        self.assertEqual(least_slack(KITE, ((0, 3, 3),)), ((1, 2, 3), 0))


if __name__ == "__main__":
    unittest.main()
