"""Pairs at two hubs, the two pairs made of them, and plans led back: [101] to [104]."""

import unittest
from itertools import combinations

from samples import (BOTH, KITE, NOT_PAIRS, NOT_WISHES, SQUARE, WHEEL, WIDE, Numbers, asked_by, does_fit, does_serve, is_sound, plain_cuts,
                     plain_sum, some_pairs, some_webs)
from wishways.errors import InvalidPairs, InvalidWishes, NoHubs, TooMany
from wishways.hubs import hub_pairs, hubs_of, made_two, plan_by_hubs
from wishways.plans import in_halves, in_wholes
from wishways.served import serving_plan
from wishways.twopairs import is_even
from wishways.webs import is_web, is_wishes

# All pairs among five places, up to six at once.
ALL_OF_FIVE = [pairs for many in range(1, 7) for pairs in combinations(combinations(range(5), 2), many)]
NO_HUBS = [((0, 1), (2, 3), (4, 5)), ((0, 1), (0, 2), (1, 2), (3, 4)), ((0, 1), (0, 2), (0, 3), (1, 2), (1, 3), (2, 3))]


def members(pairs):
    return sorted({place for pair in pairs for place in pair})


def plain_hubs(pairs):
    found = [two for two in combinations(members(pairs), 2) if all([set(two) & set(pair) for pair in pairs])]
    return min(found) if found else None


def hub_traffic(count, seed):
    """Webs with wishes at two hubs, every third one with even numbers."""
    numbers = Numbers(seed)
    made = []
    for web in some_webs(count, seed=seed + 1):
        one, other = numbers.below(web[1]), numbers.below(web[1])
        pairs = [pair for pair in combinations(range(web[1]), 2) if one in pair or other in pair]
        chosen = tuple(sorted([pairs.pop(numbers.below(len(pairs))) for _ in range(min(1 + numbers.below(6), len(pairs)))]))
        wishes = asked_by(numbers, chosen, 1 + numbers.below([4, 8, 20][len(made) % 3]))
        if len(made) % 3 == 0:
            web = ("web", web[1], tuple([(one, other, room + room % 2) for one, other, room in web[2]]))
            wishes = tuple([(one, other, wish + wish % 2) for one, other, wish in wishes])
        made.append((web, wishes))
    return made


def over(web, wishes):
    return [cut for cut in sorted(plain_cuts(web[1])) if plain_sum(web[2], cut) < plain_sum(wishes, cut)]


TRAFFIC = hub_traffic(150, 341)


class Hubs(unittest.TestCase):
    def test_101_all_pairs_of_five_places(self):
        seen = []
        for pairs in ALL_OF_FIVE:
            hubs = plain_hubs(pairs)
            self.assertEqual(hubs_of(pairs), hubs)
            if hubs is None:
                with self.assertRaises(NoHubs):
                    hub_pairs(pairs)
            else:
                first = [pair for pair in pairs if hubs[0] in pair]
                self.assertEqual(hub_pairs(pairs), (first, [pair for pair in pairs if pair not in first]))
            seen.append(hubs is None)
        self.assertGreater(min(seen.count(True), seen.count(False)), 100)

    def test_101_others(self):
        numbers = Numbers(342)
        for _ in range(300):
            pairs = some_pairs(numbers, 8)
            self.assertEqual(hubs_of(pairs), plain_hubs(pairs))
        for pairs in NO_HUBS:
            self.assertIs(hubs_of(pairs), None)

    def test_101_one_or_two_pairs_and_a_hub_without_pairs(self):
        for pair in combinations(range(8), 2):
            self.assertEqual(hubs_of((pair,)), pair)
            self.assertEqual(hub_pairs((pair,)), ([pair], []))
            for other in combinations(range(8), 2):
                if pair < other:
                    self.assertEqual(hubs_of((pair, other)), plain_hubs((pair, other)))
        self.assertEqual(hub_pairs(((0, 1), (0, 2), (0, 3))), ([(0, 1), (0, 2), (0, 3)], []))
        self.assertEqual(hub_pairs(((0, 3), (1, 3), (2, 3))), ([(0, 3)], [(1, 3), (2, 3)]))
        self.assertEqual(hubs_of(((0, 1), (0, 2), (1, 2))), (0, 1))

    def test_101_any_value(self):
        for value in NOT_PAIRS:
            for function in (hubs_of, hub_pairs):
                with self.assertRaises(InvalidPairs) as caught:
                    function(value)
                self.assertIs(caught.exception.value, value)


class Made(unittest.TestCase):
    def test_102_the_made_web_and_wishes(self):
        seen = []
        for web, wishes in TRAFFIC:
            hubs = plain_hubs([wish[:2] for wish in wishes])
            ties, asked, place = list(web[2]), [], web[1]
            for hub, rows in [(hubs[0], [wish for wish in wishes if hubs[0] in wish[:2]]),
                              (hubs[1], [wish for wish in wishes if hubs[0] not in wish[:2]])]:
                if rows:
                    ties += [(other if one == hub else one, place, wish) for one, other, wish in rows]
                    asked.append((hub, place, sum([wish for _, _, wish in rows])))
                    place += 1
            made = (("web", place, tuple(sorted(ties))), tuple(asked))
            error = (("places", 8) if place > 8 else ("ties", 14) if len(ties) > 14
                     else ("wish", 20) if max([wish for _, _, wish in asked]) > 20 else None)
            if error is None:
                self.assertEqual(made_two(web, wishes), made)
                self.assertIs(is_web(made[0]) and is_wishes(made[1]), True)
            else:
                with self.assertRaises(TooMany) as caught:
                    made_two(web, wishes)
                self.assertEqual((caught.exception.what, caught.exception.limit), error)
            self.assertEqual(over(*made) == [], over(web, wishes) == [])
            seen.append(error)
        for error in (None, ("places", 8), ("ties", 14), ("wish", 20)):
            self.assertGreater(seen.count(error), 2)

    def test_103_made_are_even_served_and_roomy_alike(self):
        seen = 0
        for web, wishes in TRAFFIC:
            if web[1] > 6 or len(web[2]) + len(wishes) > 14 or sum([wish for _, _, wish in wishes]) > 20:
                continue
            made = made_two(web, wishes)
            self.assertIs(is_even(*made), is_even(web, wishes))
            self.assertEqual(serving_plan(*made) is None, serving_plan(web, wishes) is None)
            seen += 1
        self.assertGreater(seen, 20)

    def test_102_limits(self):
        star = ("web", 7, tuple([(0, place, 20) for place in range(1, 7)]))
        self.assertEqual(made_two(star, ((0, 1, 20),))[0][1], 8)
        for wishes, error in [(((0, 1, 1), (2, 3, 1)), ("places", 8)), (((0, 1, 10), (0, 2, 11)), ("wish", 20)),
                              (((0, 1, 20), (2, 3, 20), (2, 4, 20)), ("places", 8))]:
            with self.assertRaises(TooMany) as caught:
                made_two(star, wishes)
            self.assertEqual((caught.exception.what, caught.exception.limit), error)
        self.assertEqual(made_two(star, ((0, 1, 10), (0, 2, 10)))[1], ((0, 7, 20),))
        dense = ("web", 6, tuple([pair + (1,) for pair in combinations(range(6), 2)][:12]))
        self.assertEqual(len(made_two(dense, ((0, 1, 1), (2, 3, 1)))[0][2]), 14)
        with self.assertRaises(TooMany) as caught:
            made_two(dense, ((0, 1, 20), (2, 3, 20), (2, 4, 20)))
        self.assertEqual((caught.exception.what, caught.exception.limit), ("ties", 14))

    def test_101_no_hubs(self):
        web = ("web", 6, tuple([(0, place, 1) for place in range(1, 6)]))
        for pairs in NO_HUBS:
            for function in (made_two, plan_by_hubs):
                with self.assertRaises(NoHubs):
                    function(web, tuple([pair + (20,) for pair in pairs]))

    def test_2_wrong_wishes(self):
        for function in (made_two, plan_by_hubs):
            for wishes in NOT_WISHES + [((0, 4, 1),), ((0, 1, 1), (2, 3, 1), (4, 5, 1))]:
                with self.assertRaises(InvalidWishes) as caught:
                    function(KITE, wishes)
                self.assertIs(caught.exception.value, wishes)


class LedBack(unittest.TestCase):
    def test_104_served_exactly_if_no_cut_is_over_asked(self):
        seen = []
        for web, wishes in TRAFFIC + hub_traffic(60, 344):
            plan = plan_by_hubs(web, wishes)
            self.assertEqual(plan is None, over(web, wishes) != [])
            self.assertEqual(plan is None, serving_plan(web, wishes) is None)
            if plan is not None:
                self.assertIs(is_sound(web, wishes, plan), True)
                self.assertIs(does_fit(web, plan) and does_serve(wishes, plan), True)
                self.assertIs(in_halves(web, wishes, plan), True)
                if is_even(web, wishes):
                    self.assertIs(in_wholes(web, wishes, plan), True)
            seen.append((plan is None, is_even(web, wishes)))
        for row in [(True, True), (True, False), (False, True), (False, False)]:
            self.assertGreater(seen.count(row), 5)

    def test_104_however_great_the_made_ones_are(self):
        great = ("web", 8, tuple([(0, place, 20) for place in range(1, 8)]) + tuple([(1, place, 20) for place in range(2, 8)]))
        wishes = ((0, 2, 20), (0, 3, 20), (0, 4, 20), (1, 5, 20), (1, 6, 20), (1, 7, 20))
        plan = plan_by_hubs(great, wishes)
        self.assertIs(is_sound(great, wishes, plan) and does_fit(great, plan) and does_serve(wishes, plan), True)
        with self.assertRaises(TooMany):
            made_two(great, wishes)
        self.assertIs(in_wholes(great, wishes, plan), True)

    def test_104_wholes_and_halves(self):
        plan = plan_by_hubs(SQUARE, ((0, 2, 1), (1, 3, 1)))
        self.assertEqual(max([ratio[1] for _, ratio in plan]), 2)
        self.assertIs(in_wholes(WIDE, ((0, 2, 2), (1, 3, 2)), plan_by_hubs(WIDE, ((0, 2, 2), (1, 3, 2)))), True)
        self.assertEqual(plan_by_hubs(BOTH, ((0, 1, 4),)), None)

    def test_104_greater_hubs_than_ends(self):
        # Of the pairs (0, 7) and (1, 7) the ways are led from 7, but told from the lesser place.
        plan = plan_by_hubs(WHEEL, ((0, 7, 2), (1, 7, 2), (2, 7, 1)))
        self.assertIs(does_serve(((0, 7, 2), (1, 7, 2), (2, 7, 1)), plan) and does_fit(WHEEL, plan), True)


if __name__ == "__main__":
    unittest.main()
