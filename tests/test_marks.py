"""Marked places, own rooms and own cuts, mark plans: [141] to [143], [145]."""

import unittest
from itertools import combinations

from samples import (KITE, NOT_CUTS, NOT_EMPTY, NOT_MARKS, NOT_PLACES, NOT_WEBS, STRANGE, TOUCHY, WHEEL, Numbers, all_ways, plain_cuts, plain_sum, plain_ways,
                     some_webs, steps_of)
from wishways.errors import InvalidMarks, InvalidPlace, InvalidWeb
from wishways.marks import is_inner_even, is_mark_plan, is_marks, is_most, own_cut, own_room, own_sum
from wishways.webs import room_at

STAR, THREE = ("web", 4, ((0, 3, 1), (1, 3, 1), (2, 3, 2))), (0, 1, 2)
ODD_STAR = ("web", 4, ((0, 3, 1), (1, 3, 1), (2, 3, 1)))


def some_marks(numbers, many):
    """Two or more places."""
    places = list(range(many))
    return tuple(sorted([places.pop(numbers.below(len(places))) for _ in range(2 + numbers.below(many - 1))]))


def some_marked(count, seed):
    numbers = Numbers(seed)
    return [(web, some_marks(numbers, web[1])) for web in some_webs(count, seed=seed + 1)]


def made_inner_even(web, marks):
    """The web with one room more at the ties of some ways, so that all inner places are even."""
    rooms = {tie[:2]: min(tie[2], 10) for tie in web[2]}
    for place in range(web[1]):
        if place not in marks and sum([room for pair, room in rooms.items() if place in pair]) % 2:
            for step in steps_of(plain_ways(web, place, marks[0])[0]):
                rooms[step] += 1
    return ("web", web[1], tuple([tie[:2] + (rooms[tie[:2]],) for tie in web[2]]))


def inner_even(count, seed):
    return [(made_inner_even(web, marks), marks) for web, marks in some_marked(count, seed)]


def plain_own(many, ties, marks, place):
    """The sorted list of tuples (room, cut) of a marked place's own cuts."""
    rows = []
    for cut in plain_cuts(many):
        for side in (set(cut), set(range(many)) - set(cut)):
            if side & set(marks) == {place}:
                rows.append((plain_sum(ties, cut), cut))
    return sorted(rows)


def mark_ways(web, marks):
    return [way for one, other in combinations(marks, 2) for way in all_ways(web, one, other) if not set(way[1:-1]) & set(marks)]


class Marks(unittest.TestCase):
    def test_141_marks(self):
        for web in some_webs(40, seed=601):
            for many in range(4):
                for chosen in combinations(range(web[1]), many):
                    self.assertIs(is_marks(web, chosen), many >= 2)
            self.assertTrue(is_marks(web, tuple(range(web[1]))))
            self.assertFalse(is_marks(web, tuple(range(web[1] + 1))))
        for value in NOT_MARKS:
            self.assertIs(is_marks(KITE, value), False)

    def test_141_inner_even(self):
        seen = []
        for web, marks in some_marked(200, 602) + inner_even(80, 603):
            even = all([room_at(web, place) % 2 == 0 for place in range(web[1]) if place not in marks])
            self.assertIs(is_inner_even(web, marks), even)
            seen.append(even)
        self.assertGreater(min(seen.count(True), seen.count(False)), 60)
        self.assertEqual([is_inner_even(STAR, THREE), is_inner_even(ODD_STAR, THREE), is_inner_even(ODD_STAR, (0, 1, 2, 3))], [True, False, True])

    def test_142_own_cuts_against_all_cuts(self):
        for web, marks in some_marked(200, 604):
            rooms = []
            for place in marks:
                room, cut = plain_own(web[1], web[2], marks, place)[0]
                self.assertEqual((own_room(web, marks, place), own_cut(web, marks, place)), (room, cut))
                rooms.append(room)
            self.assertEqual(own_sum(web, marks), sum(rooms))

    def test_142_by_hand(self):
        self.assertEqual([own_room(STAR, THREE, place) for place in THREE], [1, 1, 2])
        self.assertEqual([own_cut(STAR, THREE, place) for place in THREE], [(1, 2, 3), (1,), (2,)])
        self.assertEqual([own_cut(WHEEL, tuple(range(8)), place) for place in (0, 3)], [(1, 2, 3, 4, 5, 6, 7), (3,)])
        # Of two marks each own cut is one of both.
        self.assertEqual([own_cut(KITE, (0, 3), 0), own_cut(KITE, (0, 3), 3)], [(1, 2, 3)] * 2)

    def test_141_mark_plans_against_all_ways(self):
        numbers, seen = Numbers(605), []
        for web, marks in some_marked(150, 606):
            ways = sorted(mark_ways(web, marks))
            others = sorted([way for one, other in combinations(range(web[1]), 2) for way in all_ways(web, one, other) if way not in ways])
            self.assertIs(is_mark_plan(web, marks, ()), True)
            for way in ways[:20]:
                room = min([tie[2] for tie in web[2] if tie[:2] in steps_of(way)])
                self.assertIs(is_mark_plan(web, marks, ((way, room),)), True)
                self.assertIs(is_mark_plan(web, marks, ((way, room + 1),)), False)
                self.assertIs(is_mark_plan(web, marks, ((way[::-1], room),)), False)
                self.assertIs(is_mark_plan(web, marks, ((way, 0),)), False)
            for way in others[:20]:
                self.assertIs(is_mark_plan(web, marks, ((way, 1),)), False)
            chosen = sorted({ways[numbers.below(len(ways))] for _ in range(3)})
            plan = tuple([(way, 1 + numbers.below(2)) for way in chosen])
            fits = all([sum([much for way, much in plan if tie[:2] in steps_of(way)]) <= tie[2] for tie in web[2]])
            self.assertIs(is_mark_plan(web, marks, plan), fits)
            if len(plan) > 1:
                self.assertIs(is_mark_plan(web, marks, plan[::-1]), False)
                self.assertIs(is_mark_plan(web, marks, plan + plan[-1:]), False)
            seen.append(fits)
        self.assertGreater(min(seen.count(True), seen.count(False)), 20)

    def test_141_mark_plans_of_any_value(self):
        good = (((0, 3, 2), 1), ((1, 3, 2), 1))
        self.assertIs(is_mark_plan(STAR, THREE, good), True)
        for value in NOT_EMPTY + [
                list(good), (((0, 3, 2), 1), ((1, 3, 2), 2)), (((0, 3, 2), True),), (((0, 3, 2), (1, 1)),), (((0, 3, 2), 1, 1),), (((0, 3, 2),),),
                ([(0, 3, 2), 1],), (([0, 3, 2], 1),), (((0, 3), 1),), (((0, 2), 1),), (((False, 3, 2), 1),), (((0, 3, 2), -1),), (((0, 3, 2), 10 ** 39),),
                (((0, 3, 2), None),), ((None, 1),), (((0, 3, 2), TOUCHY),), ((TOUCHY, 1),), (((2, 3, 0), 1),), (((0, 3, 1, 3, 2), 1),)]:
            self.assertIs(is_mark_plan(STAR, THREE, value), False)
            self.assertIs(is_most(STAR, THREE, value, ((1, 2, 3), (1,), (2,))), False)

    def test_143_most(self):
        good, cuts = (((0, 3, 2), 1), ((1, 3, 2), 1)), ((1, 2, 3), (1,), (2,))
        self.assertIs(is_most(STAR, THREE, good, cuts), True)
        self.assertIs(is_most(STAR, THREE, (((0, 3, 1), 1),), cuts), False)
        self.assertIs(is_most(STAR, THREE, (((0, 3, 2), 1),), cuts), False)
        # Other own cuts with the rooms that are wanted, and such as have more.
        self.assertIs(is_most(STAR, THREE, good, ((1, 2, 3), (1,), (2, 3))), True)
        self.assertIs(is_most(STAR, THREE, good, ((1, 2), (1,), (2,))), False)
        for value in STRANGE + NOT_CUTS + [list(cuts), cuts[:2], cuts + ((1,),), ((1,), (1, 2, 3), (2,)), ((1, 2, 3), (1,), (1,)), ((1, 2, 3), (1,), [2]),
                                           ((1, 2, 3), (1,), (1, 2)), ((1, 2, 3), (True,), (2,)), ((0,), (1,), (2,)), ((1, 2, 3), (1,), TOUCHY)]:
            self.assertIs(is_most(STAR, THREE, good, value), False)

    def test_142_no_plan_is_worth_more(self):
        for web, marks in some_marked(120, 607):
            left, worth = {tie[:2]: tie[2] for tie in web[2]}, 0
            for way in mark_ways(web, marks):
                much = min([left[step] for step in steps_of(way)])
                worth += much
                for step in steps_of(way):
                    left[step] -= much
            self.assertLessEqual(2 * worth, own_sum(web, marks))

    def test_145(self):
        self.assertEqual([own_room(ODD_STAR, THREE, place) for place in THREE], [1, 1, 1])
        for way in mark_ways(ODD_STAR, THREE):
            self.assertTrue(is_mark_plan(ODD_STAR, THREE, ((way, 1),)))
        for one, other in combinations(sorted(mark_ways(ODD_STAR, THREE)), 2):
            self.assertFalse(is_mark_plan(ODD_STAR, THREE, ((one, 1), (other, 1))))

    def test_141_wrong(self):
        for function in (is_inner_even, own_sum, lambda web, marks: own_room(web, marks, TOUCHY), lambda web, marks: own_cut(web, marks, TOUCHY),
                         lambda web, marks: is_mark_plan(web, marks, ()), lambda web, marks: is_most(web, marks, (), ())):
            for value in NOT_MARKS:
                with self.assertRaises(InvalidMarks) as caught:
                    function(KITE, value)
                self.assertIs(caught.exception.value, value)
            for value in NOT_WEBS:
                with self.assertRaises(InvalidWeb) as caught:
                    function(value, TOUCHY)
                self.assertIs(caught.exception.value, value)
        for function in (own_room, own_cut):
            for value in NOT_PLACES + [1, 2, 4]:
                with self.assertRaises(InvalidPlace) as caught:
                    function(KITE, (0, 3), value)
                self.assertIs(caught.exception.value, value)
        for value in NOT_WEBS:
            with self.assertRaises(InvalidWeb):
                is_marks(value, (0, 1))


if __name__ == "__main__":
    unittest.main()
