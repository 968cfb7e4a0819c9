"""Papers, their sides, lesser wishes, share papers: [81] to [85]."""

import unittest
from fractions import Fraction

from samples import (BOTH, KITE, LEAST, NOT_PAPERS, NOT_PLANS, NOT_WISHES, STRANGE, TOUCHY, Numbers, all_ways, does_fit, does_serve, fraction,
                     is_sound, plain_cuts, plain_got, plain_had, plain_loads, plain_spent, plain_sum, ratio_of, some_lengths,
                     some_traffic)
from wishways.cuts import over_asked
from wishways.deciding import decided
from wishways.errors import InvalidPaper, InvalidPlan, InvalidWishes
from wishways.lengths import bars, lengths_of_cut
from wishways.papers import as_lengths, does_paper_serve, is_lesser, is_paper, is_share_paper, sides, trimmed
from wishways.served import barring_lengths, serving_plan, share, share_lengths, share_plan

FOUR = ((0, 1, 1), (2, 3, 1), (2, 4, 1), (3, 4, 1))
STAR, ASK = ("web", 4, ((0, 1, 2), (0, 2, 2), (0, 3, 2), (2, 3, 1))), ((2, 3, 3),)
FULL = (((2, 0, 3), (2, 1)), ((2, 3), (1, 1)))
FITTING = (((0, 1, 2, 3), (1, 1)), ((0, 1, 3), (1, 1)), ((0, 2, 3), (1, 1)))
TRAFFIC = some_traffic(140, seed=301) + [(BOTH, FOUR), (BOTH, FOUR[1:]), (STAR, ASK)]


class Papers(unittest.TestCase):
    def test_81_cuts(self):
        seen = []
        for web, wishes in TRAFFIC:
            for cut in plain_cuts(web[1]):
                so = plain_sum(web[2], cut) < plain_sum(wishes, cut)
                self.assertIs(is_paper(web, wishes, ("cut", cut)), so)
                if so:
                    self.assertIs(does_paper_serve(web, wishes, ("cut", cut)), False)
                    self.assertEqual(sides(web, wishes, ("cut", cut)), (plain_sum(web[2], cut), plain_sum(wishes, cut)))
                seen.append(so)
        self.assertGreater(min(seen.count(True), seen.count(False)), 100)

    def test_81_lengths(self):
        numbers = Numbers(302)
        seen = []
        for web, wishes in TRAFFIC:
            for lengths in [some_lengths(numbers, web, 1), some_lengths(numbers, web, 9), share_lengths(web, wishes)]:
                told = (plain_had(web, lengths), plain_spent(web, wishes, lengths))
                self.assertIs(is_paper(web, wishes, ("lengths", lengths)), told[1] > told[0])
                if told[1] > told[0]:
                    self.assertIs(does_paper_serve(web, wishes, ("lengths", lengths)), False)
                    self.assertEqual(sides(web, wishes, ("lengths", lengths)), told)
                    self.assertEqual(as_lengths(web, wishes, ("lengths", lengths)), ("lengths", lengths))
                seen.append(told[1] > told[0])
        self.assertGreater(min(seen.count(True), seen.count(False)), 20)

    def test_81_plans(self):
        seen = 0
        for web, wishes in TRAFFIC:
            plan = serving_plan(web, wishes)
            if plan is None:
                low = share_plan(web, wishes)
                self.assertIs(is_paper(web, wishes, ("plan", low)), False)
                continue
            seen += 1
            self.assertIs(is_paper(web, wishes, ("plan", plan)), True)
            self.assertIs(does_paper_serve(web, wishes, ("plan", plan)), True)
            self.assertEqual(sides(web, wishes, ("plan", plan)), (
                tuple([ratio_of(load) for load in plain_loads(web, plan)]), tuple([(wish[2], 1) for wish in wishes])))
            self.assertIs(is_paper(web, wishes, ("plan", plan[1:])), False)
            way, ratio = plan[0]
            self.assertIs(is_paper(web, wishes, ("plan", ((way, (ratio[0] + ratio[1], ratio[1])),) + plan[1:])), False)
            self.assertIs(is_paper(web, wishes, ("plan", list(plan))), False)
            with self.assertRaises(InvalidPaper):
                as_lengths(web, wishes, ("plan", plan))
        self.assertGreater(seen, 10)

    def test_81_a_plan_must_fit_and_serve(self):
        # Of 3 along the three ways of the kite: more than the room of the tie of 0 and 2; less than the wish.
        serves_alone = (((0, 1, 3), (1, 1)), ((0, 2, 3), (2, 1)))
        fits_alone = FITTING[:2]
        self.assertEqual([is_paper(KITE, ((0, 3, 3),), ("plan", plan)) for plan in (FITTING, serves_alone, fits_alone)],
                         [True, False, False])

    def test_81_exactly_one_side_has_a_paper(self):
        for web, wishes in TRAFFIC:
            serving = is_paper(web, wishes, ("plan", serving_plan(web, wishes)))
            barring = is_paper(web, wishes, ("lengths", barring_lengths(web, wishes)))
            self.assertNotEqual(serving, barring)
            self.assertIs(does_paper_serve(web, wishes, decided(web, wishes)), serving)
            if over_asked(web, wishes):
                self.assertIs(serving, False)

    def test_81_one_thing_otherwise(self):
        for value in NOT_PAPERS:
            for wishes in (((0, 3, 3),), ((0, 3, 4),)):
                self.assertIs(is_paper(KITE, wishes, value), False)
                for function in (does_paper_serve, sides, as_lengths):
                    with self.assertRaises(InvalidPaper) as caught:
                        function(KITE, wishes, value)
                    self.assertIs(caught.exception.value, value)
        self.assertIs(is_paper(KITE, ((0, 3, 4),), ("cut", (1, 2, 3))), True)
        self.assertIs(is_paper(KITE, ((0, 3, 3),), ("cut", (1, 2, 3))), False)

    def test_82_cut_papers_are_led_to_lengths_papers(self):
        for web, wishes in TRAFFIC:
            for cut in over_asked(web, wishes):
                paper = as_lengths(web, wishes, ("cut", cut))
                self.assertEqual(paper, ("lengths", lengths_of_cut(web, cut)))
                self.assertIs(is_paper(web, wishes, paper), True)
                self.assertEqual(as_lengths(web, wishes, paper), paper)

    def test_83_examples_by_hand(self):
        self.assertEqual(sides(STAR, ((2, 3, 4),), ("cut", (2,))), (3, 4))
        self.assertEqual(sides(BOTH, FOUR, ("lengths", (1,) * 6)), (6, 8))
        self.assertEqual(sides(STAR, ASK, ("plan", FULL)), (((0, 1), (2, 1), (2, 1), (1, 1)), ((3, 1),)))


class Lesser(unittest.TestCase):
    def test_84_lesser_wishes(self):
        wishes = ((0, 1, 3), (1, 2, 1), (2, 3, 5))
        for value in [wishes, wishes[:1], wishes[1:], ((0, 1, 1), (2, 3, 5)), ((0, 1, 2), (1, 2, 1), (2, 3, 4))]:
            self.assertIs(is_lesser(KITE, wishes, value), True)
        for value in [((0, 1, 4),), ((0, 2, 1),), ((0, 1, 3), (1, 2, 2)), ((0, 1, 1), (0, 2, 1)), (), [(0, 1, 3)], ((0, 1, 0),),
                      ((0, 1, True),), ((1, 0, 1),), ((2, 3, 1), (0, 1, 1)), ((0, 1, 1), (0, 1, 1)), ((0, 1),), ((0, 4, 1),), None, TOUCHY]:
            self.assertIs(is_lesser(KITE, wishes, value), False)
        for value in NOT_WISHES:
            self.assertIs(is_lesser(KITE, wishes, value), False)

    def test_84_the_same_wishes(self):
        for web, wishes in TRAFFIC:
            self.assertIs(is_lesser(web, wishes, wishes), True)
            plan = serving_plan(web, wishes)
            if plan is not None:
                self.assertEqual(trimmed(web, wishes, plan, wishes), plan)

    def test_84_trimmed(self):
        numbers = Numbers(303)
        seen = 0
        for web, wishes in TRAFFIC:
            plan = serving_plan(web, wishes)
            if plan is None:
                continue
            later = tuple([(one, other, 1 + numbers.below(wish)) for one, other, wish in wishes if numbers.below(4)])
            if later == ():
                continue
            short = trimmed(web, wishes, plan, later)
            self.assertIs(is_sound(web, later, short), True)
            self.assertIs(does_serve(later, short) and does_fit(web, short), True)
            self.assertEqual(short, plain_trimmed(plan, later))
            seen += 1
        self.assertGreater(seen, 10)

    def test_84_ratios_parted_where_the_wish_is_reached(self):
        plan = (((0, 1, 2, 3), (3, 2)), ((0, 1, 3), (1, 2)), ((0, 2, 3), (2, 1)))
        told = [trimmed(KITE, ((0, 3, 4),), plan, ((0, 3, wish),)) for wish in (1, 2, 3, 4)]
        self.assertEqual(told, [(((0, 1, 2, 3), (1, 1)),), (((0, 1, 2, 3), (3, 2)), ((0, 1, 3), (1, 2))),
                                (((0, 1, 2, 3), (3, 2)), ((0, 1, 3), (1, 2)), ((0, 2, 3), (1, 1))), plan])

    def test_84_a_plan_that_serves_without_fitting(self):
        plan = (((2, 3), (3, 1)),)
        self.assertEqual(trimmed(STAR, ASK, plan, ((2, 3, 2),)), (((2, 3), (2, 1)),))

    def test_84_wrong_plans_and_wishes(self):
        for value in NOT_PLANS + [(), FITTING[:2], FITTING[1:], FITTING[:2] + (((0, 2, 3), (2, 1)),)]:
            with self.assertRaises(InvalidPlan) as caught:
                trimmed(KITE, ((0, 3, 3),), value, None)
            self.assertIs(caught.exception.value, value)
        for later in NOT_WISHES + [((0, 3, 4),), ((0, 1, 1),), ((0, 1, 1), (0, 3, 1)), ((0, 4, 1),)]:
            with self.assertRaises(InvalidWishes) as caught:
                trimmed(KITE, ((0, 3, 3),), FITTING, later)
            self.assertIs(caught.exception.value, later)

    def test_84_what_bars_bars_greater_wishes(self):
        numbers = Numbers(304)
        for web, wishes in TRAFFIC:
            lengths = barring_lengths(web, wishes)
            if lengths is not None:
                greater = tuple([(one, other, min(20, wish + numbers.below(5))) for one, other, wish in wishes])
                self.assertIs(is_lesser(web, greater, wishes), True)
                self.assertIs(bars(web, greater, lengths), True)
                for cut in over_asked(web, wishes):
                    self.assertIs(is_paper(web, greater, ("cut", cut)), True)


def plain_trimmed(plan, later):
    """Way by way: what is left of its pair's wish, or all of it."""
    left = {(one, other): Fraction(wish) for one, other, wish in later}
    kept = []
    for way, ratio in plan:
        pair = (way[0], way[-1])
        much = min(fraction(ratio), left.get(pair, Fraction(0)))
        if much > 0:
            kept.append((way, ratio_of(much)))
            left[pair] -= much
    return tuple(kept)


class SharePapers(unittest.TestCase):
    def test_85_by_adding_up(self):
        for web, wishes in TRAFFIC:
            ratio, plan, lengths = share(web, wishes), share_plan(web, wishes), share_lengths(web, wishes)
            self.assertIs(is_share_paper(web, wishes, ("share", ratio, plan, lengths)), True)
            double = tuple([2 * length for length in lengths])
            self.assertIs(is_share_paper(web, wishes, ("share", ratio, plan, double)), True)
            self.assertIs(is_share_paper(web, wishes, ("share", ratio, plan, (0,) * len(lengths))), False)
            self.assertIs(is_share_paper(web, wishes, ("share", ratio, plan[1:], lengths)), False)
            self.assertIs(is_share_paper(web, wishes, ("share", ratio_of(fraction(ratio) / 2), plan, lengths)), False)
            half = tuple([(way, ratio_of(fraction(much) / 2)) for way, much in plan])
            self.assertIs(is_share_paper(web, wishes, ("share", ratio_of(fraction(ratio) / 2), half, lengths)), False)
            for at in range(len(lengths)):
                other = lengths[:at] + (lengths[at] + 1,) + lengths[at + 1:]
                much = plain_spent(web, wishes, other)
                so = much > 0 and Fraction(plain_had(web, other), much) == fraction(ratio)
                self.assertIs(is_share_paper(web, wishes, ("share", ratio, plan, other)), so)

    def test_85_a_plan_that_does_not_fit(self):
        # Along one way alone both pairs get what the share gives them, but the tie has no room for that.
        plan = (((0, 1), (1, 20)),)
        self.assertIs(is_share_paper(LEAST, ((0, 1, 20),), ("share", (1, 20), (((0, 1), (1, 1)),), (1,))), True)
        self.assertIs(is_share_paper(LEAST, ((0, 1, 20),), ("share", (1, 20), plan, (1,))), False)
        self.assertIs(is_share_paper(STAR, ASK, ("share", (1, 1), (((2, 3), (3, 1)),), (0, 1, 0, 1))), False)
        self.assertIs(is_share_paper(STAR, ASK, ("share", (1, 1), FULL, (0, 1, 0, 1))), True)
        self.assertEqual(plain_got(ASK, FULL), [3])
        self.assertEqual(len(all_ways(STAR, 2, 3)), 2)

    def test_85_any_value(self):
        good = ("share", (1, 1), FULL, (0, 1, 0, 1))
        for at, wrongs in [(0, ["shore", b"share", None, TOUCHY]), (1, [(0, 1), (-1, 1), (2, 2), [1, 1], 1, True, None, TOUCHY, (True, 1)]),
                           (2, [(), None, list(FULL), FULL[::-1], TOUCHY]), (3, [None, [0, 1, 0, 1], (0, 1, 0), (0, 1, 0, True), TOUCHY])]:
            for wrong in wrongs:
                self.assertIs(is_share_paper(STAR, ASK, good[:at] + (wrong,) + good[at + 1:]), False)
        for value in STRANGE + [list(good), good[:3], good + (1,)]:
            self.assertIs(is_share_paper(STAR, ASK, value), False)


if __name__ == "__main__":
    unittest.main()
