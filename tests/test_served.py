"""The share, and wishes served or barred: [4], [8], [71] to [75]."""

import unittest
from fractions import Fraction

from samples import (BOTH, KITE, LEAST, LINE, NOT_WISHES, WHEEL, all_ways, does_fit, does_serve, fraction, is_sound, plain_cuts,
                     plain_distance, plain_got, plain_had, plain_length, plain_loads, plain_spent, plain_sum, ratio_of, some_traffic,
                     steps_of)
from wishways.errors import InvalidWeb, InvalidWishes
from wishways.lengths import bars, is_lengths
from wishways.plans import fits, is_plan, serves
from wishways.served import barring_lengths, serving_plan, share, share_lengths, share_plan
from wishways.solving import best_worth

FOUR = ((0, 1, 1), (2, 3, 1), (2, 4, 1), (3, 4, 1))
STAR = ("web", 4, ((0, 1, 2), (0, 2, 2), (0, 3, 2), (2, 3, 1)))
# A web and wishes with room everywhere, but barred; a web in which each way of each pair is needed.
CROSSED = ("web", 6, ((0, 2, 1), (0, 3, 1), (1, 4, 1), (1, 5, 1), (2, 4, 1), (2, 5, 1), (3, 4, 1), (3, 5, 1)))
THREE = ((0, 1, 1), (2, 3, 2), (4, 5, 1))
DENSE = ("web", 6, tuple([(one, other, 1 + (one * other) % 3) for one in range(6) for other in range(one + 1, 6)
                          if (one, other) != (2, 3)]))
TRAFFIC = some_traffic(150, seed=261) + [
    (BOTH, FOUR), (CROSSED, THREE), (DENSE, ((0, 1, 20), (0, 2, 3), (1, 5, 7), (2, 3, 11), (2, 4, 1), (4, 5, 13))),
    (LEAST, ((0, 1, 20),)), (LINE, ((0, 1, 3), (0, 2, 5), (1, 2, 1))), (WHEEL, ((0, 4, 20), (1, 5, 20), (2, 6, 20), (3, 7, 20))),
    (STAR, ((1, 2, 2), (1, 3, 1))), (KITE, ((0, 3, 1), (1, 2, 1)))]


def table_of_all_ways(web, wishes):
    """The share as the first position, and each way of each pair as one: rows for ties and wishes, the share is worth 1."""
    ways = [(at, way) for at, wish in enumerate(wishes) for way in all_ways(web, wish[0], wish[1])]
    rows = [(0,) + tuple([int(tie[:2] in steps_of(way)) for _, way in ways]) for tie in web[2]]
    rows += [(wish[2],) + tuple([-int(owner == at) for owner, _ in ways]) for at, wish in enumerate(wishes)]
    return ("table", tuple(rows), tuple([tie[2] for tie in web[2]] + [0] * len(wishes)), (1,) + (0,) * len(ways))


class Share(unittest.TestCase):
    def test_72_plan_and_lengths_reach_it_by_adding_up(self):
        for web, wishes in TRAFFIC:
            ratio, plan, lengths = share(web, wishes), share_plan(web, wishes), share_lengths(web, wishes)
            self.assertEqual(ratio_of(fraction(ratio)), ratio)
            self.assertGreater(ratio[0], 0)
            self.assertIs(is_sound(web, wishes, plan), True)
            self.assertIs(does_fit(web, plan), True)
            self.assertEqual(plain_got(wishes, plan), [fraction(ratio) * wish for _, _, wish in wishes])
            self.assertIs(is_lengths(web, lengths), True)
            much = plain_spent(web, wishes, lengths)
            self.assertGreater(much, 0)
            # Neither a plan can reach more, nor lengths be below it: both meet.
            self.assertEqual(Fraction(plain_had(web, lengths), much), fraction(ratio))

    def test_74_full_ties_and_shortest_ways(self):
        for web, wishes in TRAFFIC:
            plan, lengths = share_plan(web, wishes), share_lengths(web, wishes)
            for tie, load, length in zip(web[2], plain_loads(web, plan), lengths):
                self.assertTrue(length == 0 or load == tie[2])
            for way, _ in plan:
                self.assertEqual(plain_length(web, lengths, way), plain_distance(web, lengths, way[0], way[-1]))

    def test_72_no_cut_is_below_it(self):
        for web, wishes in TRAFFIC:
            most = [Fraction(plain_sum(web[2], cut), plain_sum(wishes, cut)) for cut in plain_cuts(web[1]) if plain_sum(wishes, cut)]
            self.assertLessEqual(fraction(share(web, wishes)), min(most))

    def test_72_of_one_wish_it_is_that_of_the_least_cut(self):
        for web, wishes in TRAFFIC:
            one, other, wish = wishes[0]
            rooms = [plain_sum(web[2], cut) for cut in plain_cuts(web[1]) if (one in cut) != (other in cut)]
            self.assertEqual(fraction(share(web, wishes[:1])), Fraction(min(rooms), wish))

    def test_75_and_others_by_hand(self):
        self.assertEqual([share(BOTH, FOUR), share(CROSSED, THREE), share(LEAST, ((0, 1, 20),)), share(LEAST, ((0, 1, 1),))],
                         [(3, 4), (8, 9), (1, 20), (1, 1)])
        self.assertEqual([share(STAR, ((1, 2, 2), (1, 3, 1))), share(STAR, ((2, 3, 1),)), share(LINE, ((0, 1, 1), (0, 2, 1), (1, 2, 1)))],
                         [(2, 3), (3, 1), (3, 2)])
        plan = share_plan(BOTH, FOUR)
        self.assertEqual(plain_got(FOUR, plan), [Fraction(3, 4)] * 4)
        self.assertTrue(all([load == 1 for load in plain_loads(BOTH, plan)]))
        self.assertEqual(len(set(share_lengths(BOTH, FOUR))), 1)

    def test_73_by_the_table_of_all_ways(self):
        seen = 0
        for web, wishes in TRAFFIC:
            table = table_of_all_ways(web, wishes)
            if len(table[3]) <= 30:
                self.assertEqual(share(web, wishes), best_worth(table))
                seen += 1
        self.assertGreater(seen, 60)


class Served(unittest.TestCase):
    def test_71_just_one_of_both(self):
        told = []
        for web, wishes in TRAFFIC:
            plan, lengths = serving_plan(web, wishes), barring_lengths(web, wishes)
            self.assertEqual([plan is None, lengths is None], [fraction(share(web, wishes)) < 1, fraction(share(web, wishes)) >= 1])
            if plan is not None:
                self.assertIs(is_sound(web, wishes, plan), True)
                self.assertIs(does_fit(web, plan) and does_serve(wishes, plan), True)
                self.assertIs(is_plan(web, wishes, plan) and fits(web, wishes, plan) and serves(web, wishes, plan), True)
                self.assertIs(bars(web, wishes, share_lengths(web, wishes)), False)
            else:
                self.assertIs(is_lengths(web, lengths), True)
                self.assertGreater(plain_spent(web, wishes, lengths), plain_had(web, lengths))
                self.assertIs(bars(web, wishes, lengths), True)
                self.assertIs(bars(web, wishes, share_lengths(web, wishes)), True)
            told.append(plan is None)
        self.assertGreater(min(told.count(True), told.count(False)), 15)

    def test_71_below_at_and_above_the_share(self):
        # In the line each tie is full at 3 and 4; in the star the two have 3.
        for web, wishes, served in [(LINE, ((0, 1, 1), (0, 2, 1)), True), (LINE, ((0, 1, 1), (0, 2, 2)), True),
                                    (LINE, ((0, 1, 1), (0, 2, 3)), False), (LINE, ((0, 1, 1), (0, 2, 2), (1, 2, 2)), True),
                                    (LINE, ((0, 1, 1), (0, 2, 2), (1, 2, 3)), False), (STAR, ((2, 3, 2),), True), (STAR, ((2, 3, 3),), True),
                                    (STAR, ((2, 3, 4),), False), (LEAST, ((0, 1, 1),), True), (LEAST, ((0, 1, 2),), False)]:
            self.assertIs(serving_plan(web, wishes) is not None, served)
            self.assertIs(barring_lengths(web, wishes) is None, served)
        self.assertEqual(serving_plan(LEAST, ((0, 1, 1),)), (((0, 1), (1, 1)),))
        self.assertEqual(serving_plan(LINE, ((0, 2, 2),)), (((0, 1, 2), (2, 1)),))

    def test_75_room_everywhere_but_barred(self):
        for web, wishes in [(BOTH, FOUR), (CROSSED, THREE)]:
            self.assertTrue(all([plain_sum(web[2], cut) >= plain_sum(wishes, cut) for cut in plain_cuts(web[1])]))
            self.assertIs(serving_plan(web, wishes), None)
            lengths = barring_lengths(web, wishes)
            self.assertGreater(plain_spent(web, wishes, lengths), plain_had(web, lengths))
            # With any one wish left out they are served.
            self.assertIsNot(serving_plan(web, wishes[1:]), None)

    def test_71_where_no_plan_in_wholes_serves(self):
        square, wishes = ("web", 4, ((0, 1, 1), (0, 3, 1), (1, 2, 1), (2, 3, 1))), ((0, 2, 1), (1, 3, 1))
        plan = serving_plan(square, wishes)
        self.assertIs(does_serve(wishes, plan) and does_fit(square, plan), True)
        self.assertGreater(max([ratio[1] for _, ratio in plan]), 1)

    def test_71_wrong_wishes(self):
        for function in (share, share_plan, share_lengths, serving_plan, barring_lengths):
            for wishes in NOT_WISHES + [((0, 4, 1),)]:
                with self.assertRaises(InvalidWishes) as caught:
                    function(KITE, wishes)
                self.assertIs(caught.exception.value, wishes)
            with self.assertRaises(InvalidWeb):
                function(None, None)


if __name__ == "__main__":
    unittest.main()
