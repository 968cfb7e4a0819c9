"""Wishes at the rim, served in wholes or halves, or barred by a rim cut: [134], [135]."""

import unittest

from samples import (FLAT_BOW, FLAT_FOUR, FLAT_KITE, FLAT_PAIR, NOT_FLATS, NOT_WISHES, TOUCHY, Numbers, does_fit, does_serve, is_sound, plain_sum,
                     plain_ways, some_flats, some_rim_traffic, some_wishes, steps_of)
from test_fourplaces import over
from wishways.deciding import is_served
from wishways.errors import InvalidFlat, InvalidWishes
from wishways.papers import is_paper
from wishways.rimcuts import rim_cut, rim_over_asked
from wishways.rimways import rim_paper, rim_plan, rim_served
from wishways.twopairs import is_even

TRAFFIC = some_rim_traffic(300, seed=551)


def made_even(flat, wishes):
    """The same web with rooms twice as great, one more at some ties along a way for each odd wish: all even."""
    web = flat[1]
    rooms = {tie[:2]: 2 * tie[2] for tie in web[2]}
    for one, other, wish in wishes:
        if wish % 2:
            for step in steps_of(plain_ways(web, one, other)[0]):
                rooms[step] += 1
    return ("flat", ("web", web[1], tuple([tie[:2] + (rooms[tie[:2]],) for tie in web[2]]))) + flat[2:]


EVEN = [(made_even(flat, wishes), wishes) for flat, wishes in some_rim_traffic(300, seed=552)]


class RimWays(unittest.TestCase):
    def check_told(self, flat, wishes):
        web, plan = flat[1], rim_plan(flat, wishes)
        barred = over(web, wishes) != []
        self.assertIs(rim_served(flat, wishes), not barred)
        self.assertEqual(plan is None, barred)
        paper = rim_paper(flat, wishes)
        self.assertTrue(is_paper(web, wishes, paper))
        if barred:
            cut = rim_cut(flat, *rim_over_asked(flat, wishes)[0])
            self.assertEqual(paper, ("cut", cut))
            self.assertLess(plain_sum(web[2], cut), plain_sum(wishes, cut))
        else:
            self.assertEqual(paper, ("plan", plan))
            self.assertTrue(is_sound(web, wishes, plan) and does_fit(web, plan) and does_serve(wishes, plan))
            self.assertLessEqual(max([ratio[1] for _, ratio in plan]), 1 if is_even(web, wishes) else 2)
        return barred, is_even(web, wishes)

    def test_134_by_adding_up(self):
        seen = [self.check_told(flat, wishes) for flat, wishes in TRAFFIC]
        self.assertGreater(min([seen.count((barred, False)) for barred in (True, False)]), 40)

    def test_134_in_wholes_where_all_is_even(self):
        seen = [self.check_told(flat, wishes) for flat, wishes in EVEN]
        self.assertGreater(min([seen.count((barred, True)) for barred in (True, False)]), 20)

    def test_134_tight_all_even(self):
        # As much as can be asked: wishes grow by 2, as long as they are served.
        numbers = Numbers(553)
        for flat, wishes in EVEN[::3]:
            for _ in range(6):
                at = numbers.below(len(wishes))
                more = wishes[:at] + (wishes[at][:2] + (wishes[at][2] + 2,),) + wishes[at + 1:]
                if more[at][2] <= 20 and over(flat[1], more) == []:
                    wishes = more
            self.check_told(flat, wishes)

    def test_134_with_as_many_wishes_as_can_be(self):
        numbers = Numbers(554)
        for flat in some_flats(80, seed=555, most=20):
            wishes = some_wishes(numbers, flat[1][1])
            if all([place in flat[3] for wish in wishes for place in wish[:2]]):
                self.check_told(flat, tuple([wish[:2] + (1 + wish[2] // 3,) for wish in wishes]))

    def test_134_served_exactly(self):
        for flat, wishes in TRAFFIC[::6] + EVEN[::10]:
            self.assertIs(rim_served(flat, wishes), is_served(flat[1], wishes))

    def test_134_wishes_that_stand_not_all_on_the_rim_may_be_barred_without_a_cut(self):
        # [1] drawn flat: its five places never stand all on one face.
        both = ("web", 5, ((0, 2, 1), (0, 3, 1), (0, 4, 1), (1, 2, 1), (1, 3, 1), (1, 4, 1)))
        flat = ("flat", both, ((2, 3, 4), (2, 4, 3), (0, 1), (0, 1), (0, 1)), (0, 2, 1, 4))
        with self.assertRaises(InvalidWishes):
            rim_served(flat, ((0, 1, 1), (2, 3, 1), (2, 4, 1), (3, 4, 1)))
        self.assertIs(rim_served(flat, ((0, 1, 1), (2, 4, 1))), True)

    def test_134_by_hand(self):
        self.assertEqual([rim_plan(FLAT_PAIR, ((0, 1, 3),)), rim_plan(FLAT_PAIR, ((0, 1, 4),)), rim_paper(FLAT_PAIR, ((0, 1, 4),))],
                         [(((0, 1), (3, 1)),), None, ("cut", (1,))])
        self.assertEqual(rim_plan(FLAT_BOW, ((0, 5, 3),)), (((0, 1, 3, 4, 5), (1, 1)), ((0, 2, 1, 3, 4, 5), (1, 1)), ((0, 2, 1, 4, 5), (1, 1))))
        self.assertEqual([rim_paper(FLAT_BOW, ((0, 5, 4),)), rim_paper(FLAT_FOUR, ((0, 1, 20),))[0]], [("cut", (1, 2, 3, 4, 5)), "cut"])
        self.assertEqual(rim_paper(FLAT_BOW, ((3, 5, 4),)), ("cut", (4, 5)))
        # The two steps that come first, not the cut that is first sorted.
        self.assertEqual(rim_over_asked(FLAT_KITE, ((0, 3, 4),))[0], (0, 3))
        self.assertEqual(rim_paper(FLAT_KITE, ((0, 3, 4),)), ("cut", (1, 2, 3)))
        # A square, both across: halves are needed.
        square = ("flat", ("web", 4, ((0, 1, 1), (0, 3, 1), (1, 2, 1), (2, 3, 1))), ((1, 3), (0, 2), (1, 3), (0, 2)), (0, 1, 2, 3))
        self.assertEqual({ratio for _, ratio in rim_plan(square, ((0, 2, 1), (1, 3, 1)))}, {(1, 2)})

    def test_134_wrong(self):
        for function in (rim_served, rim_plan, rim_paper):
            for value in NOT_FLATS:
                with self.assertRaises(InvalidFlat) as caught:
                    function(value, TOUCHY)
                self.assertIs(caught.exception.value, value)
            for value in NOT_WISHES + [((0, 3, 1),), ((0, 4, 1),)]:
                with self.assertRaises(InvalidWishes) as caught:
                    function(FLAT_FOUR, value)
                self.assertIs(caught.exception.value, value)


if __name__ == "__main__":
    unittest.main()
