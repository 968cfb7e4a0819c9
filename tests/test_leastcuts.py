"""Least cuts, the weakest cut, firm cuts: [33], [34], [35]."""

import unittest

from samples import BOTH, LEAST, LINE, RING, WHEEL, plain_cuts, plain_joined, plain_least, plain_sum, some_traffic, some_webs, twos
from wishways.cuts import all_cuts, has_room_everywhere, slack
from wishways.errors import InvalidPlace
from wishways.leastcuts import firm_cuts, is_firm, least_cut, least_cuts, least_room, nearest_cut, weakest_cut

WEBS = [LEAST, LINE, RING, BOTH, WHEEL] + some_webs(28, seed=31)


def side(many, cut, place):
    return set(cut) if place in cut else set(range(many)) - set(cut)


class LeastCuts(unittest.TestCase):
    def test_34_against_a_look_at_all_cuts(self):
        for web in WEBS:
            for one, other in twos(web[1]):
                cuts, room = plain_least(web, one, other)
                self.assertEqual(least_cuts(web, one, other), cuts)
                self.assertEqual(least_cut(web, one, other), cuts[0])
                self.assertEqual(least_room(web, one, other), room)

    def test_34_either_way_round(self):
        for web in WEBS[:12]:
            for one, other in twos(web[1]):
                self.assertEqual(least_cuts(web, one, other), least_cuts(web, other, one))

    def test_34_several(self):
        self.assertEqual(least_cuts(("web", 3, ((0, 1, 2), (1, 2, 2))), 0, 2), [(1, 2), (2,)])
        self.assertEqual(least_cut(("web", 3, ((0, 1, 2), (1, 2, 2))), 0, 2), (1, 2))
        self.assertEqual(least_cuts(LINE, 0, 2), [(1, 2)])

    def test_34_like_places_are_refused(self):
        for function in (least_cut, least_room, least_cuts, nearest_cut):
            for place in range(4):
                with self.assertRaises(InvalidPlace) as caught:
                    function(RING, place, place)
                self.assertEqual(caught.exception.value, place)
            with self.assertRaises(InvalidPlace) as caught:
                function(RING, 4, 4)
            with self.assertRaises(InvalidPlace) as caught:
                function(RING, 1, True)
            self.assertIs(caught.exception.value, True)

    def test_34_weakest(self):
        for web in WEBS:
            rooms = [(plain_sum(web[2], cut), cut) for cut in plain_cuts(web[1])]
            self.assertEqual(weakest_cut(web), min(rooms)[1])
        self.assertEqual(weakest_cut(("web", 3, ((0, 1, 2), (0, 2, 2)))), (1,))


class Common(unittest.TestCase):
    def test_35_nearest(self):
        for web in WEBS:
            for one, other in twos(web[1]):
                cuts, _ = plain_least(web, one, other)
                common = set.intersection(*[side(web[1], cut, one) for cut in cuts])
                cut = nearest_cut(web, one, other)
                self.assertEqual(side(web[1], cut, one), common)
                self.assertIn(cut, cuts)

    def test_35_from_either_place(self):
        line = ("web", 4, ((0, 1, 2), (1, 2, 2), (2, 3, 2)))
        self.assertEqual([nearest_cut(line, 0, 3), nearest_cut(line, 3, 0), nearest_cut(line, 1, 3), nearest_cut(line, 2, 0)],
                         [(1, 2, 3), (3,), (2, 3), (2, 3)])

    def test_35_two_lots(self):
        for web in WEBS[:12]:
            lots = [set(cut) for cut in all_cuts(web)]
            for lot in lots[::3]:
                for second in lots[::2]:
                    both = plain_sum(web[2], lot & second) + plain_sum(web[2], lot | second)
                    between = [room for one, other, room in web[2]
                               if (one in lot - second and other in second - lot) or (other in lot - second and one in second - lot)]
                    self.assertEqual(plain_sum(web[2], lot) + plain_sum(web[2], second), both + 2 * sum(between))


class Firm(unittest.TestCase):
    def test_33_joined_sides(self):
        told = []
        for web in WEBS:
            links = [tie[:2] for tie in web[2]]
            firm = []
            for cut in all_cuts(web):
                so = plain_joined(cut, links) and plain_joined(side(web[1], cut, 0), links)
                self.assertIs(is_firm(web, cut), so)
                told.append(so)
                if so:
                    firm.append(cut)
            self.assertEqual(firm_cuts(web), firm)
        self.assertIn(True, told)
        self.assertIn(False, told)

    def test_33_either_side(self):
        self.assertIs(is_firm(RING, (1, 3)), False)
        self.assertIs(is_firm(LINE, (1,)), False)
        self.assertIs(is_firm(LINE, (2,)), True)
        star = ("web", 4, ((0, 1, 1), (0, 2, 1), (0, 3, 1)))
        self.assertEqual(firm_cuts(star), [(1,), (2,), (3,)])

    def test_33_room_everywhere_by_firm_cuts_alone(self):
        told = []
        for web, wishes in some_traffic(120, seed=32):
            told.append(all([slack(web, wishes, cut) >= 0 for cut in firm_cuts(web)]))
            self.assertIs(has_room_everywhere(web, wishes), told[-1])
        self.assertIn(True, told)
        self.assertIn(False, told)


if __name__ == "__main__":
    unittest.main()
