"""Plans, loads and what is got: [7]."""

import unittest
from fractions import Fraction

from samples import (KITE, LEAST, NOT_PLANS, NOT_RATIOS, RING, STRANGE, TOUCHY, Numbers, does_fit, does_serve, fraction, is_sound,
                     plain_got, plain_loads, plain_ways, ratio_of, some_traffic)
from wishways.errors import InvalidPlan, InvalidRatio, InvalidWishes
from wishways.plans import (fits, got, in_halves, in_wholes, is_plan, loads, plan_taken, plans_added, serves)

ASK = ((0, 3, 3),)
FULL = (((0, 1, 3), (1, 1)), ((0, 2, 3), (2, 1)))
STAR, TWO = ("web", 4, ((0, 1, 2), (0, 2, 2), (0, 3, 2), (2, 3, 1))), ((1, 2, 2), (1, 3, 1))


def some_plan(numbers, web, wishes, most_under=4):
    plan = []
    for one, other, _ in wishes:
        for way in plain_ways(web, one, other):
            if numbers.below(3):
                plan.append((way, ratio_of(Fraction(1 + numbers.below(9), 1 + numbers.below(most_under)))))
    return tuple(sorted(plan))


def some_plans(count, seed, most_under=4):
    numbers = Numbers(seed)
    return [(web, wishes, some_plan(numbers, web, wishes, most_under)) for web, wishes in some_traffic(count, seed=seed + 1)]


class IsPlan(unittest.TestCase):
    def test_7_plans(self):
        for web, wishes, plan in some_plans(60, 241):
            self.assertIs(is_plan(web, wishes, plan), True)
            self.assertIs(is_sound(web, wishes, plan), True)
            self.assertIs(is_plan(web, wishes, list(plan)), False)
            if len(plan) > 1:
                self.assertIs(is_plan(web, wishes, plan[::-1]), False)
                self.assertIs(is_plan(web, wishes, plan + plan[-1:]), False)
                self.assertIs(is_plan(web, wishes, plan[1:]), True)
            if plan:
                way, ratio = plan[0]
                for part in [(way[::-1], ratio), (way, (0, 1)), (way, (-1, 1)), (way, (2, 2)), (way, 1), (list(way), ratio), [way, ratio],
                             (way, ratio, 0), (way,), (way[:-1], ratio), (way, list(ratio)), (way, (True, 1)), (way + (8,), ratio)]:
                    self.assertIs(is_plan(web, wishes, (part,) + plan[1:]), False)

    def test_7_of_the_wishing_pairs_alone(self):
        self.assertIs(is_plan(KITE, ((0, 3, 1), (1, 2, 1)), (((0, 1, 3), (1, 1)), ((1, 2), (1, 1)))), True)
        self.assertIs(is_plan(KITE, ((0, 3, 1),), (((0, 1, 3), (1, 1)), ((1, 2), (1, 1)))), False)
        self.assertIs(is_plan(KITE, ((1, 2, 1),), (((1, 2), (1, 1)),)), True)
        self.assertIs(is_plan(KITE, ((1, 2, 1),), (((2, 1), (1, 1)),)), False)
        self.assertIs(is_plan(KITE, ((1, 2, 1),), ()), True)

    def test_7_any_value(self):
        for value in NOT_PLANS:
            self.assertIs(is_plan(KITE, ASK, value), False)
            for call in [(loads,), (got,), (fits,), (serves,), (in_wholes,), (in_halves,), (plans_added, None), (plan_taken, None)]:
                with self.assertRaises(InvalidPlan) as caught:
                    call[0](KITE, ASK, value, *call[1:])
                self.assertIs(caught.exception.value, value)
        for value in (FULL, (), FULL[:1], FULL[1:], (((0, 1, 3), (10 ** 39, 7)),)):
            self.assertIs(is_plan(KITE, ASK, value), True)

    def test_7_wishes_ahead_of_the_plan(self):
        for wishes in (((0, 4, 1),), (), None, [(0, 3, 1)]):
            for function in (is_plan, loads, got, fits, serves, in_wholes, in_halves):
                with self.assertRaises(InvalidWishes) as caught:
                    function(KITE, wishes, None)
                self.assertIs(caught.exception.value, wishes)


class Loads(unittest.TestCase):
    def test_7_by_adding_up(self):
        told = []
        for web, wishes, plan in some_plans(84, 243) + some_plans(42, 245, 1):
            self.assertEqual(loads(web, wishes, plan), tuple([ratio_of(load) for load in plain_loads(web, plan)]))
            self.assertEqual(got(web, wishes, plan), tuple([ratio_of(much) for much in plain_got(wishes, plan)]))
            self.assertIs(fits(web, wishes, plan), does_fit(web, plan))
            self.assertIs(serves(web, wishes, plan), does_serve(wishes, plan))
            unders = [ratio[1] for _, ratio in plan]
            self.assertIs(in_wholes(web, wishes, plan), max(unders, default=1) == 1)
            self.assertIs(in_halves(web, wishes, plan), max(unders, default=1) <= 2)
            told.append((fits(web, wishes, plan), in_halves(web, wishes, plan)))
        self.assertEqual(len(set(told)), 4)

    def test_7_nothing(self):
        self.assertEqual([loads(KITE, ASK, ()), got(KITE, ASK, ()), fits(KITE, ASK, ()), serves(KITE, ASK, ())],
                         [((0, 1),) * 5, ((0, 1),), True, False])
        self.assertEqual([in_wholes(KITE, ASK, ()), in_halves(KITE, ASK, ())], [True, True])

    def test_7_at_the_room_and_at_the_wish(self):
        def judged(*ratios):
            plan = tuple([(way, ratio) for way, ratio in zip([(0, 1, 3), (0, 2, 3)], ratios)])
            return [fits(KITE, ASK, plan), serves(KITE, ASK, plan)]
        self.assertEqual([judged((1, 1), (1, 1)), judged((1, 1), (2, 1)), judged((3, 2), (3, 2)), judged((1, 2), (1, 1))],
                         [[True, False], [False, True], [False, True], [True, False]])
        self.assertEqual([fits(LEAST, ((0, 1, 1),), (((0, 1), (1, 1)),)), fits(LEAST, ((0, 1, 1),), (((0, 1), (10 ** 39 + 1, 10 ** 39)),))],
                         [True, False])
        self.assertEqual(serves(LEAST, ((0, 1, 1),), (((0, 1), (10 ** 39 + 1, 10 ** 39)),)), False)
        # More than the wish, and one of two pairs, are not served either.
        self.assertIs(serves(LEAST, ((0, 1, 1),), (((0, 1), (2, 1)),)), False)
        self.assertIs(serves(STAR, TWO, (((1, 0, 2), (2, 1)), ((1, 0, 3), (1, 1)))), True)
        self.assertIs(serves(STAR, TWO, (((1, 0, 2), (2, 1)),)), False)

    def test_7_unders_of_one_two_and_three(self):
        told = [(in_wholes(KITE, ASK, plan), in_halves(KITE, ASK, plan)) for plan in [
            FULL, (((0, 1, 3), (1, 2)), ((0, 2, 3), (2, 1))), (((0, 1, 3), (1, 1)), ((0, 2, 3), (1, 3))), (((0, 1, 3), (5, 4)),)]]
        self.assertEqual(told, [(True, True), (False, True), (False, False), (False, False)])


class Added(unittest.TestCase):
    def test_7_sums(self):
        numbers = Numbers(247)
        for web, wishes, plan in some_plans(42, 248):
            other = some_plan(numbers, web, wishes, 6)
            both = plans_added(web, wishes, plan, other)
            self.assertIs(is_sound(web, wishes, both), True)
            ways = {way: fraction(ratio) for way, ratio in plan}
            for way, ratio in other:
                ways[way] = ways.get(way, 0) + fraction(ratio)
            self.assertEqual(both, tuple(sorted([(way, ratio_of(much)) for way, much in ways.items()])))
            self.assertEqual(plans_added(web, wishes, other, plan), both)
            self.assertEqual([plans_added(web, wishes, plan, ()), plans_added(web, wishes, (), plan)], [plan, plan])

    def test_7_taken(self):
        for web, wishes, plan in some_plans(42, 250):
            for ratio in [(1, 1), (1, 2), (7, 3), (10 ** 39, 1), (1, 10 ** 39)]:
                taken = plan_taken(web, wishes, plan, ratio)
                self.assertEqual(taken, tuple([(way, ratio_of(fraction(part) * fraction(ratio))) for way, part in plan]))
            self.assertEqual(plan_taken(web, wishes, plan, (2, 1)), plans_added(web, wishes, plan, plan))

    def test_7_wrong_other_plans_and_ratios(self):
        for value in NOT_PLANS:
            with self.assertRaises(InvalidPlan) as caught:
                plans_added(KITE, ASK, FULL, value)
            self.assertIs(caught.exception.value, value)
        for ratio in NOT_RATIOS + [(0, 1), (-1, 1), (-1, 2)]:
            with self.assertRaises(InvalidRatio) as caught:
                plan_taken(KITE, ASK, FULL, ratio)
            self.assertIs(caught.exception.value, ratio)
        with self.assertRaises(InvalidPlan):
            plan_taken(KITE, ASK, FULL[::-1], (0, 1))

    def test_2_touchy_values_are_asked_for_their_kind_alone(self):
        for value in [TOUCHY, (TOUCHY,), ((TOUCHY, TOUCHY),), (((0, 1), TOUCHY),), ((TOUCHY, (1, 1)),)] + STRANGE[:5]:
            self.assertIs(is_plan(RING, ((0, 1, 1),), value), False)


if __name__ == "__main__":
    unittest.main()
