"""Steps split off, and mark plans that are worth half the own rooms: [143], [144], [145]."""

import unittest
from itertools import combinations_with_replacement

from samples import KITE, NOT_MARKS, NOT_PLACES, NOT_ROOMY, NOT_WEBS, TOUCHY, Numbers, steps_of
from test_marks import ODD_STAR, STAR, THREE, inner_even, mark_ways, plain_own, some_marked
from wishways.errors import InvalidMarks, InvalidPlace, InvalidTies, InvalidWeb, NotInner, NotInnerEven, NoTie
from wishways.marks import is_inner_even, is_most, own_sum
from wishways.splitting import keeps_own, marked_plan, most_cuts, split_off


def plain_split(ties, place, one, other):
    rooms = {frozenset(tie[:2]): tie[2] for tie in ties}
    rooms[frozenset([place, one])] -= 1
    rooms[frozenset([place, other])] -= 1
    if one != other:
        rooms[frozenset([one, other])] = rooms.get(frozenset([one, other]), 0) + 1
    return tuple(sorted([tuple(sorted(pair)) + (room,) for pair, room in rooms.items() if room]))


def plain_rooms(many, ties, marks):
    return [plain_own(many, ties, marks, place)[0][0] for place in marks]


def ends_of(ties, place):
    return {one + other - place: room for one, other, room in ties if place in (one, other)}


def inner_places(web, marks):
    return [place for place in range(web[1]) if place not in marks]


class Splitting(unittest.TestCase):
    def test_144_split_off(self):
        for web, marks in some_marked(60, 611):
            for place in range(web[1]):
                ends = ends_of(web[2], place)
                for one in range(web[1]):
                    for other in range(web[1]):
                        if place in (one, other):
                            continue
                        missing = [end for end in (one, other) if end not in ends] or ([one] if one == other and ends[one] == 1 else [])
                        if missing:
                            with self.assertRaises(NoTie) as caught:
                                split_off(web, web[2], place, one, other)
                            self.assertEqual((caught.exception.one, caught.exception.other), (place, missing[0]))
                        else:
                            self.assertEqual(split_off(web, web[2], place, one, other), plain_split(web[2], place, one, other))

    def test_144_each_place_stays_even(self):
        for web, marks in inner_even(60, 612):
            for place in inner_places(web, marks):
                for one, other in combinations_with_replacement(sorted(ends_of(web[2], place)), 2):
                    if one == other and ends_of(web[2], place)[one] == 1:
                        continue
                    ties = split_off(web, web[2], place, one, other)
                    for inner in inner_places(web, marks):
                        self.assertEqual(sum(ends_of(ties, inner).values()) % 2, 0)

    def test_144_what_keeps_the_own_rooms(self):
        seen = []
        for web, marks in some_marked(60, 613) + inner_even(60, 614):
            rooms = plain_rooms(web[1], web[2], marks)
            for place in inner_places(web, marks):
                for one, other in combinations_with_replacement(sorted(ends_of(web[2], place)), 2):
                    if one == other and ends_of(web[2], place)[one] == 1:
                        continue
                    kept = plain_rooms(web[1], plain_split(web[2], place, one, other), marks) == rooms
                    self.assertIs(keeps_own(web, marks, web[2], place, one, other), kept)
                    self.assertIs(keeps_own(web, marks, web[2], place, other, one), kept)
                    seen.append(kept)
        self.assertGreater(min(seen.count(True), seen.count(False)), 40)

    def test_144_for_each_tie_some_tie_keeps_them(self):
        numbers = Numbers(615)
        for web, marks in inner_even(60, 616):
            ties = web[2]
            inner = [place for place in inner_places(web, marks) if ends_of(ties, place)]
            while inner:
                place = inner[numbers.below(len(inner))]
                ends = ends_of(ties, place)
                for one in ends:
                    others = [other for other in ends if (other != one or ends[one] > 1) and keeps_own(web, marks, ties, place, one, other)]
                    self.assertNotEqual(others, [])
                ties = split_off(web, ties, place, one, others[numbers.below(len(others))])
                inner = [place for place in inner_places(web, marks) if ends_of(ties, place)][:6]
            self.assertEqual(plain_rooms(web[1], ties, marks), plain_rooms(web[1], web[2], marks))
            for place, room in zip(marks, plain_rooms(web[1], web[2], marks)):
                self.assertEqual(sum(ends_of(ties, place).values()), room)

    def test_144_ties_need_not_be_joined(self):
        self.assertEqual(split_off(KITE, ((0, 1, 2),), 1, 0, 0), ())
        self.assertEqual(split_off(KITE, ((0, 1, 1), (2, 3, 300)), 3, 2, 2), ((0, 1, 1), (2, 3, 298)))
        self.assertEqual(split_off(KITE, ((0, 1, 1), (0, 2, 1)), 0, 2, 1), ((1, 2, 1),))
        self.assertEqual(split_off(KITE, ((0, 1, 1), (0, 2, 1), (1, 2, 300)), 0, 2, 1), ((1, 2, 301),))
        self.assertIs(keeps_own(KITE, (0, 3), ((0, 1, 2),), 1, 0, 0), True)
        for ties in ((), ((2, 3, 1),), ((0, 1, 1),)):
            with self.assertRaises(NoTie) as caught:
                split_off(KITE, ties, 1, 0, 0)
            self.assertEqual((caught.exception.one, caught.exception.other), (1, 0))
        with self.assertRaises(NoTie) as caught:
            split_off(KITE, ((0, 1, 1),), 1, 0, 2)
        self.assertEqual((caught.exception.one, caught.exception.other), (1, 2))

    def test_144_by_hand(self):
        self.assertEqual([keeps_own(STAR, THREE, STAR[2], 3, 0, 2), keeps_own(STAR, THREE, STAR[2], 3, 1, 2), keeps_own(STAR, THREE, STAR[2], 3, 0, 1),
                          keeps_own(STAR, THREE, STAR[2], 3, 2, 2)], [True, True, False, False])

    def test_144_wrong(self):
        ties = KITE[2]
        for value in NOT_WEBS:
            with self.assertRaises(InvalidWeb) as caught:
                split_off(value, TOUCHY, TOUCHY, TOUCHY, TOUCHY)
            self.assertIs(caught.exception.value, value)
            with self.assertRaises(InvalidWeb):
                keeps_own(value, TOUCHY, TOUCHY, TOUCHY, TOUCHY, TOUCHY)
        for value in NOT_MARKS:
            with self.assertRaises(InvalidMarks) as caught:
                keeps_own(KITE, value, TOUCHY, TOUCHY, TOUCHY, TOUCHY)
            self.assertIs(caught.exception.value, value)
        for function in (split_off, lambda web, *rest: keeps_own(web, (0, 3), *rest)):
            for value in NOT_ROOMY:
                with self.assertRaises(InvalidTies) as caught:
                    function(KITE, value, TOUCHY, TOUCHY, TOUCHY)
                self.assertIs(caught.exception.value, value)
            for value in NOT_PLACES + [4]:
                for place, one, other in ((value, TOUCHY, TOUCHY), (1, value, TOUCHY), (1, 0, value)):
                    with self.assertRaises(InvalidPlace) as caught:
                        function(KITE, ties, place, one, other)
                    self.assertIs(caught.exception.value, value)
            for one, other in ((1, 0), (0, 1), (1, 1)):
                with self.assertRaises(InvalidPlace) as caught:
                    function(KITE, ties, 1, one, other)
                self.assertEqual(caught.exception.value, 1)

    def test_144_of_marked_places(self):
        for place in (0, 3):
            with self.assertRaises(NotInner):
                keeps_own(KITE, (0, 3), KITE[2], place, 1, 2)
            # Ahead of what isn't tied, behind wrong parameters.
            with self.assertRaises(NotInner):
                keeps_own(KITE, (0, 3), (), place, 1, 2)
            with self.assertRaises(InvalidPlace):
                keeps_own(KITE, (0, 3), KITE[2], place, 1, place)
        with self.assertRaises(NoTie):
            keeps_own(KITE, (0, 3), (), 1, 0, 2)


class MarkedPlan(unittest.TestCase):
    def test_143_as_much(self):
        for web, marks in inner_even(300, 617):
            plan, cuts = marked_plan(web, marks), most_cuts(web, marks)
            ways = mark_ways(web, marks)
            self.assertTrue(all([way in ways and type(much) is int and much > 0 for way, much in plan]))
            self.assertEqual([way for way, _ in plan], sorted({way for way, _ in plan}))
            for tie in web[2]:
                self.assertLessEqual(sum([much for way, much in plan if tie[:2] in steps_of(way)]), tie[2])
            rooms = plain_rooms(web[1], web[2], marks)
            self.assertEqual(2 * sum([much for _, much in plan]), sum(rooms))
            self.assertEqual(cuts, tuple([plain_own(web[1], web[2], marks, place)[0][1] for place in marks]))
            self.assertIs(is_most(web, marks, plan, cuts), True)

    def test_143_many_inner_places(self):
        inner = [(web, marks) for web, marks in inner_even(400, 618) if len(inner_places(web, marks)) > 3]
        self.assertGreater(len(inner), 40)
        for web, marks in inner:
            self.assertEqual(2 * sum([much for _, much in marked_plan(web, marks)]), own_sum(web, marks))

    def test_143_not_inner_even(self):
        seen = 0
        for web, marks in some_marked(100, 619):
            if not is_inner_even(web, marks):
                with self.assertRaises(NotInnerEven):
                    marked_plan(web, marks)
                self.assertEqual(len(most_cuts(web, marks)), len(marks))
                seen += 1
        self.assertGreater(seen, 30)
        with self.assertRaises(NotInnerEven):
            marked_plan(ODD_STAR, THREE)
        self.assertEqual([most_cuts(ODD_STAR, THREE), marked_plan(ODD_STAR, (0, 1, 2, 3))],
                         [((1, 2, 3), (1,), (2,)), (((0, 3), 1), ((1, 3), 1), ((2, 3), 1))])

    def test_143_by_hand(self):
        self.assertEqual(marked_plan(STAR, THREE), (((0, 3, 2), 1), ((1, 3, 2), 1)))
        self.assertEqual(marked_plan(("web", 2, ((0, 1, 20),)), (0, 1)), (((0, 1), 20),))
        # What hangs at an inner place alone leads nowhere.
        self.assertEqual(marked_plan(("web", 3, ((0, 1, 3), (0, 2, 4))), (0, 1)), (((0, 1), 3),))
        self.assertEqual(marked_plan(("web", 4, ((0, 1, 3), (1, 2, 1), (2, 3, 5))), (0, 1, 2, 3)), (((0, 1), 3), ((1, 2), 1), ((2, 3), 5)))

    def test_143_wrong(self):
        for function in (marked_plan, most_cuts):
            for value in NOT_WEBS:
                with self.assertRaises(InvalidWeb):
                    function(value, TOUCHY)
            for value in NOT_MARKS:
                with self.assertRaises(InvalidMarks) as caught:
                    function(KITE, value)
                self.assertIs(caught.exception.value, value)


if __name__ == "__main__":
    unittest.main()
