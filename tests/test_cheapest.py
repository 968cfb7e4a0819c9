"""Prices, tolls, charges, costs, cheapest papers: [161] to [163]."""

import unittest
from fractions import Fraction

from samples import (BOTH, GOOD_TOLLS, KITE, NOT_EMPTY, NOT_PLACES, NOT_PLANS, NOT_PRICES, NOT_TOLLS, NOT_WEBS, NOT_WISHES, STRANGE, TOUCHY, WHEEL, Numbers,
                     all_ways, does_fit, does_serve, fraction, is_sound, plain_distance, plain_had, plain_length, plain_loads, plain_spent, ratio_of,
                     some_traffic, some_wishes)
from wishways.cheapest import cheapest, is_cheapest, pair_charge, plan_cost, tolls_worth
from wishways.errors import InvalidPlace, InvalidPlan, InvalidPrices, InvalidTolls, InvalidWeb, InvalidWishes
from wishways.plans import is_plan
from wishways.served import serving_plan

THREE, ASK, PRICES = ("web", 3, ((0, 1, 2), (0, 2, 1), (1, 2, 1))), ((0, 1, 2),), (5, 1, 1)
FOUR = ((0, 1, 1), (2, 3, 1), (2, 4, 1), (3, 4, 1))


def some_prices(numbers, web, most):
    return tuple([numbers.below(most + 1) for _ in web[2]])


def some_tolls(numbers, web):
    return tuple([ratio_of(Fraction(numbers.below(7), 1 + numbers.below(4))) for _ in web[2]])


def plain_charge(web, one, other, prices, tolls):
    if one == other:
        return Fraction(0)
    sums = [price + fraction(toll) for price, toll in zip(prices, tolls)]
    return min([plain_length(web, sums, way) for way in all_ways(web, one, other)])


def plain_worth(web, wishes, prices, tolls):
    paid = sum([fraction(toll) * tie[2] for toll, tie in zip(tolls, web[2])])
    return sum([wish * plain_charge(web, one, other, prices, tolls) for one, other, wish in wishes]) - paid


def plain_cost(web, plan, prices):
    return sum([fraction(ratio) * plain_length(web, prices, way) for way, ratio in plan], Fraction(0))


def some_cases(count, seed, mosts=(0, 1, 9, 1000)):
    numbers = Numbers(seed)
    rows = []
    for at, (web, wishes) in enumerate(some_traffic(count, seed=seed + 1)):
        less = tuple([wish[:2] + (1 + wish[2] // 4,) for wish in wishes])
        rows.append((web, less if at % 3 else wishes, some_prices(numbers, web, mosts[at % len(mosts)])))
    return rows


class Costs(unittest.TestCase):
    def test_161_costs(self):
        numbers, seen = Numbers(661), 0
        for web, wishes, prices in some_cases(120, 662):
            plan = serving_plan(web, wishes)
            for told in (() if plan is None else plan, (), () if plan is None else plan[:1]):
                cost = plain_cost(web, told, prices)
                self.assertEqual(plan_cost(web, wishes, told, prices), ratio_of(cost))
                self.assertEqual(cost, sum([load * price for load, price in zip(plain_loads(web, told), prices)]))
                seen += cost > 0
            way = all_ways(web, wishes[0][0], wishes[0][1])[0]
            ratio = ratio_of(Fraction(1 + numbers.below(50), 1 + numbers.below(9)))
            self.assertEqual(plan_cost(web, wishes, ((way, ratio),), prices), ratio_of(fraction(ratio) * plain_length(web, prices, way)))
        self.assertGreater(seen, 40)

    def test_162_charges_and_worths(self):
        numbers = Numbers(663)
        for web, wishes, prices in some_cases(100, 664):
            tolls = some_tolls(numbers, web)
            for one in range(web[1]):
                for other in range(web[1]):
                    self.assertEqual(pair_charge(web, one, other, prices, tolls), ratio_of(plain_charge(web, one, other, prices, tolls)))
            worth = plain_worth(web, wishes, prices, tolls)
            self.assertEqual(tolls_worth(web, wishes, prices, tolls), ratio_of(worth))
            plan = serving_plan(web, wishes)
            if plan is not None:
                self.assertGreaterEqual(plain_cost(web, plan, prices), worth)

    def test_162_without_tolls_a_charge_is_a_distance(self):
        for web, wishes, prices in some_cases(40, 666):
            for one, other, _ in wishes:
                self.assertEqual(pair_charge(web, one, other, prices, ((0, 1),) * len(web[2])), (plain_distance(web, prices, one, other), 1))

    def test_162_by_hand(self):
        self.assertEqual([pair_charge(THREE, 0, 1, PRICES, ((0, 1), (7, 2), (0, 1))), pair_charge(THREE, 1, 1, PRICES, GOOD_TOLLS[:3]),
                          pair_charge(THREE, 1, 0, PRICES, ((0, 1), (1, 3), (1, 2)))], [(5, 1), (0, 1), (17, 6)])
        self.assertEqual([tolls_worth(THREE, ASK, PRICES, ((0, 1), toll, (0, 1))) for toll in ((0, 1), (3, 2), (3, 1), (4, 1))], [(4, 1), (11, 2), (7, 1), (6, 1)])
        self.assertEqual(tolls_worth(THREE, ASK, (0, 0, 0), ((0, 1), (1, 3), (0, 1))), (-1, 3))


class Cheapest(unittest.TestCase):
    def test_163_by_adding_up(self):
        words, prices_paid = [], []
        for web, wishes, prices in some_cases(200, 668):
            paper = cheapest(web, wishes, prices)
            words.append(paper[0])
            self.assertIs(is_cheapest(web, wishes, prices, paper), True)
            if paper[0] == "lengths":
                self.assertEqual(len(paper), 2)
                self.assertGreater(plain_spent(web, wishes, paper[1]), plain_had(web, paper[1]))
                self.assertIsNone(serving_plan(web, wishes))
                continue
            word, plan, tolls = paper
            self.assertEqual(word, "cheapest")
            self.assertTrue(is_sound(web, wishes, plan) and does_fit(web, plan) and does_serve(wishes, plan))
            self.assertEqual(type(tolls), tuple)
            self.assertTrue(all([fraction(toll) >= 0 and ratio_of(fraction(toll)) == toll for toll in tolls]))
            self.assertEqual(plain_cost(web, plan, prices), plain_worth(web, wishes, prices, tolls))
            prices_paid.append(any([toll != (0, 1) for toll in tolls]))
        self.assertGreater(min(words.count("lengths"), words.count("cheapest")), 40)
        self.assertGreater(prices_paid.count(True), 10)

    def test_163_tight_webs(self):
        # Wishes as great as can be: as long as they are served, they grow.
        numbers = Numbers(670)
        for web, wishes, prices in some_cases(60, 671, (9, 1000)):
            for _ in range(8):
                at = numbers.below(len(wishes))
                more = wishes[:at] + (wishes[at][:2] + (min(20, wishes[at][2] + 1),),) + wishes[at + 1:]
                if serving_plan(web, more) is not None:
                    wishes = more
            paper = cheapest(web, wishes, prices)
            self.assertIs(is_cheapest(web, wishes, prices, paper), True)

    def test_163_of_great_webs(self):
        numbers = Numbers(672)
        for _ in range(6):
            wishes = tuple([wish[:2] + (1 + wish[2] // 7,) for wish in some_wishes(numbers, 8)])
            prices = some_prices(numbers, WHEEL, 1000)
            self.assertIs(is_cheapest(WHEEL, wishes, prices, cheapest(WHEEL, wishes, prices)), True)

    def test_163_with_one_thing_otherwise(self):
        plan, tolls = (((0, 1), (1, 1)), ((0, 2, 1), (1, 1))), ((0, 1), (3, 1), (0, 1))
        for other in (tolls, ((0, 1), (0, 1), (3, 1)), ((0, 1), (1, 2), (5, 2))):
            self.assertIs(is_cheapest(THREE, ASK, PRICES, ("cheapest", plan, other)), True)
        for other in (((0, 1),) * 3, ((0, 1), (4, 1), (0, 1)), ((1, 1), (3, 1), (0, 1)), tolls[:2], list(tolls), ((0, 1), (6, 2), (0, 1)), ((0, 1), (3, True), (0, 1)),
                      ((0, 1), (-3, 1), (6, 1)), None, TOUCHY):
            self.assertIs(is_cheapest(THREE, ASK, PRICES, ("cheapest", plan, other)), False)
        for other in ((((0, 1), (2, 1)),), (((0, 1), (3, 2)), ((0, 2, 1), (1, 2))), plan[::-1], list(plan), plan[:1], (((0, 2, 1), (2, 1)),), (), None, TOUCHY,
                      (((0, 1), (2, 1)), ((0, 2, 1), (1, 1)))):
            self.assertIs(is_cheapest(THREE, ASK, PRICES, ("cheapest", other, tolls)), False)
        good = ("cheapest", plan, tolls)
        for other in (list(good), good + ((),), good[:2], ("plan", plan), ("cheapest", tolls, plan), (b"cheapest", plan, tolls), ("lengths", tolls),
                      ("lengths", (1, 1, 1)), ("cut", (1,)), ("cheap",) + good[1:]):
            self.assertIs(is_cheapest(THREE, ASK, PRICES, other), False)
        # Other prices: the same plan costs otherwise.
        self.assertIs(is_cheapest(THREE, ASK, (4, 1, 1), good), False)
        self.assertIs(is_cheapest(THREE, ASK, (4, 1, 1), ("cheapest", plan, ((0, 1), (2, 1), (0, 1)))), True)

    def test_163_all_of_price_none(self):
        self.assertIs(is_cheapest(THREE, ASK, (0, 0, 0), ("cheapest", (((0, 1), (2, 1)),), ((0, 1),) * 3)), True)
        self.assertEqual(cheapest(THREE, ASK, (0, 0, 0))[0], "cheapest")

    def test_163_not_served(self):
        for prices in ((0,) * 6, (1, 2, 3, 4, 5, 1000)):
            paper = cheapest(BOTH, FOUR, prices)
            self.assertEqual(paper[0], "lengths")
            self.assertIs(is_cheapest(BOTH, FOUR, prices, paper), True)
            self.assertIs(is_cheapest(BOTH, FOUR, prices, ("lengths", (1,) * 6)), True)
            for other in (("lengths", (1,) * 5), ("lengths", (0,) * 6), ("lengths", [1] * 6), ("lengths", (1, 1, 1, 1, 1, True)), ("lengths", (1, 1, 1, 0, 0, 0)),
                          ("lengths",), ("lengths", None), ("lengths", TOUCHY), ("cheapest", (), ((0, 1),) * 6), ("lengths", (1,) * 6, ())):
                self.assertIs(is_cheapest(BOTH, FOUR, prices, other), False)

    def test_163_any_value(self):
        for value in STRANGE + NOT_EMPTY:
            for told in (value, ("cheapest", value, value), ("lengths", value), ("cheapest", (((0, 1), (2, 1)),), value)):
                self.assertIs(is_cheapest(THREE, ASK, PRICES, told), False)


class Wrong(unittest.TestCase):
    def test_161_wrong(self):
        good, asked, prices = (((0, 1, 3), (1, 1)),), ((0, 3, 3),), (1, 9, 1, 2, 0)
        for value in NOT_WEBS:
            for function in (lambda web: plan_cost(web, TOUCHY, TOUCHY, TOUCHY), lambda web: pair_charge(web, TOUCHY, TOUCHY, TOUCHY, TOUCHY),
                             lambda web: tolls_worth(web, TOUCHY, TOUCHY, TOUCHY), lambda web: cheapest(web, TOUCHY, TOUCHY),
                             lambda web: is_cheapest(web, TOUCHY, TOUCHY, ())):
                with self.assertRaises(InvalidWeb) as caught:
                    function(value)
                self.assertIs(caught.exception.value, value)
        for value in NOT_WISHES + [((0, 4, 1),)]:
            for function in (lambda wishes: plan_cost(KITE, wishes, TOUCHY, TOUCHY), lambda wishes: tolls_worth(KITE, wishes, TOUCHY, TOUCHY),
                             lambda wishes: cheapest(KITE, wishes, TOUCHY), lambda wishes: is_cheapest(KITE, wishes, TOUCHY, ())):
                with self.assertRaises(InvalidWishes) as caught:
                    function(value)
                self.assertIs(caught.exception.value, value)
        for value in NOT_PLANS:
            self.assertIs(is_plan(KITE, asked, value), False)
            with self.assertRaises(InvalidPlan) as caught:
                plan_cost(KITE, asked, value, TOUCHY)
            self.assertIs(caught.exception.value, value)
        for value in NOT_PLACES + [4]:
            for one, other in ((value, TOUCHY), (0, value)):
                with self.assertRaises(InvalidPlace) as caught:
                    pair_charge(KITE, one, other, TOUCHY, TOUCHY)
                self.assertIs(caught.exception.value, value)
        for value in NOT_PRICES:
            for function in (lambda told: plan_cost(KITE, asked, good, told), lambda told: pair_charge(KITE, 0, 0, told, TOUCHY),
                             lambda told: tolls_worth(KITE, asked, told, TOUCHY), lambda told: cheapest(KITE, asked, told),
                             lambda told: is_cheapest(KITE, asked, told, ())):
                with self.assertRaises(InvalidPrices) as caught:
                    function(value)
                self.assertIs(caught.exception.value, value)
        for value in NOT_TOLLS:
            for function in (lambda told: pair_charge(KITE, 0, 1, prices, told), lambda told: tolls_worth(KITE, asked, prices, told)):
                with self.assertRaises(InvalidTolls) as caught:
                    function(value)
                self.assertIs(caught.exception.value, value)


if __name__ == "__main__":
    unittest.main()
