"""Two pairs: [91], [93], [94]."""

import unittest
from itertools import combinations

from samples import (BOTH, KITE, LINE, NOT_TURNINGS, NOT_WISHES, RING, SQUARE, WHEEL, WIDE, Numbers, asked_by, does_fit, does_serve, is_sound,
                     plain_cuts, plain_sum, some_traffic, some_webs)
from test_turned import plain_turnings
from wishways.errors import InvalidTurning, InvalidWishes, NotTwo, OddPlace
from wishways.plans import in_halves, in_wholes
from wishways.served import serving_plan
from wishways.turned import is_turned
from wishways.twopairs import both_turned, is_even, odd_places, plan_by, surpluses, two_answer


def some_two(count, seed):
    """Webs with two wishes, about half of the pairs with a place in common, every second web even."""
    numbers = Numbers(seed)
    made = []
    for web in some_webs(count, seed=seed + 1):
        pairs = list(combinations(range(web[1]), 2))
        if len(pairs) < 2:
            continue
        chosen = tuple(sorted([pairs.pop(numbers.below(len(pairs))) for _ in range(2)]))
        wishes = asked_by(numbers, chosen, 12)
        if len(made) % 2:
            web, wishes = even(web, wishes)
        made.append((web, wishes))
    return made


def even(web, wishes):
    """The web and wishes with even numbers."""
    return (("web", web[1], tuple([(one, other, 2 * (room // 2 + 1) if room < 19 else 20) for one, other, room in web[2]])),
            tuple([(one, other, 2 * (wish // 2 + 1)) for one, other, wish in wishes]))


def over(web, wishes):
    return [cut for cut in sorted(plain_cuts(web[1])) if plain_sum(web[2], cut) < plain_sum(wishes, cut)]


TRAFFIC = some_two(90, 331) + [(SQUARE, ((0, 2, 1), (1, 3, 1))), (WIDE, ((0, 2, 2), (1, 3, 2))), (WIDE, ((0, 2, 4), (1, 3, 4))),
                               (KITE, ((0, 1, 1), (0, 3, 1))), (LINE, ((0, 1, 1), (0, 2, 2))), (WHEEL, ((0, 4, 3), (1, 5, 4)))]


class Even(unittest.TestCase):
    def test_91_odd_places(self):
        seen = []
        for web, wishes in some_traffic(84, seed=333) + TRAFFIC:
            numbers = [sum([row[2] for row in web[2] + wishes if place in row[:2]]) for place in range(web[1])]
            odd = [place for place in range(web[1]) if numbers[place] % 2]
            self.assertEqual(odd_places(web, wishes), odd)
            self.assertIs(is_even(web, wishes), odd == [])
            self.assertEqual(len(odd) % 2, 0)
            seen.append(odd == [])
        self.assertGreater(min(seen.count(True), seen.count(False)), 20)

    def test_91_by_hand(self):
        self.assertEqual([odd_places(SQUARE, ((0, 2, 1), (1, 3, 1))), odd_places(SQUARE, ((0, 2, 1),)), odd_places(SQUARE, ((0, 1, 2),))],
                         [[0, 1, 2, 3], [0, 2], []])
        self.assertEqual([is_even(WIDE, ((0, 1, 1),)), is_even(WIDE, ((0, 1, 20),))], [False, True])


class Surpluses(unittest.TestCase):
    def test_93_sum_and_difference(self):
        for web, wishes in TRAFFIC:
            (one, other, wish), (second, far, much) = wishes
            both = [[0] * web[1], [0] * web[1]]
            for made, sign in zip(both, (1, -1)):
                for place, more in [(one, wish), (other, -wish), (second, sign * much), (far, -sign * much)]:
                    made[place] += more
            self.assertEqual(surpluses(web, wishes), tuple(both))

    def test_93_a_place_in_both_pairs(self):
        self.assertEqual(surpluses(LINE, ((0, 1, 3), (0, 2, 5))), ([8, -3, -5], [-2, -3, 5]))
        self.assertEqual(surpluses(LINE, ((0, 2, 3), (1, 2, 5))), ([3, 5, -8], [3, -5, 2]))
        self.assertEqual(surpluses(LINE, ((0, 1, 3), (1, 2, 5))), ([3, 2, -5], [3, -8, 5]))

    def test_93_both_are_had_exactly_if_no_cut_is_over_asked(self):
        seen = []
        for web, wishes in TRAFFIC:
            odd = odd_places(web, wishes)
            if odd:
                with self.assertRaises(OddPlace) as caught:
                    both_turned(web, wishes)
                self.assertEqual(caught.exception.place, odd[0])
                continue
            both = both_turned(web, wishes)
            seen.append(both is None)
            self.assertEqual(both is None, over(web, wishes) != [])
            if both is not None:
                self.assertIs(type(both), tuple)
                for surplus, turning in zip(surpluses(web, wishes), both):
                    self.assertIs(is_turned(web, surplus, turning), True)
        self.assertGreater(min(seen.count(True), seen.count(False)), 6)

    def test_93_odd_ahead_of_over_asked(self):
        with self.assertRaises(OddPlace) as caught:
            both_turned(SQUARE, ((0, 2, 20), (1, 3, 19)))
        self.assertEqual(caught.exception.place, 1)
        self.assertIs(both_turned(SQUARE, ((0, 2, 20), (1, 3, 20))), None)


class Answers(unittest.TestCase):
    def test_94_plans_and_cuts(self):
        seen = []
        for web, wishes in TRAFFIC:
            answer = two_answer(web, wishes)
            cuts = over(web, wishes)
            if cuts:
                self.assertEqual(answer, ("cut", cuts[0]))
            else:
                self.assertEqual([answer[0], len(answer)], ["plan", 2])
                self.assertIs(is_sound(web, wishes, answer[1]), True)
                self.assertIs(does_fit(web, answer[1]) and does_serve(wishes, answer[1]), True)
                self.assertIs(in_halves(web, wishes, answer[1]), True)
                if is_even(web, wishes):
                    self.assertIs(in_wholes(web, wishes, answer[1]), True)
            self.assertEqual(serving_plan(web, wishes) is None, cuts != [])
            seen.append((answer[0], is_even(web, wishes)))
        self.assertGreater(min([seen.count((word, so)) for word in ("plan", "cut") for so in (True, False)]), 5)

    def test_94_halves_are_needed(self):
        word, plan = two_answer(SQUARE, ((0, 2, 1), (1, 3, 1)))
        self.assertEqual([word, max([ratio[1] for _, ratio in plan])], ["plan", 2])

    def test_94_all_turnings_of_small_webs(self):
        # Whatever turnings have the two surpluses, they lead both wishes.
        for web, wishes in [(WIDE, ((0, 2, 2), (1, 3, 2))), (SQUARE, ((0, 1, 1), (2, 3, 1))), (RING, ((0, 1, 1), (2, 3, 1))),
                            (KITE, ((0, 1, 1), (0, 2, 1))), (WIDE, ((0, 1, 2), (0, 3, 2)))]:
            first, second = surpluses(web, wishes)
            turnings = plain_turnings(web)
            sums = [turning for turning in turnings if is_turned(web, first, turning)]
            differences = [turning for turning in turnings if is_turned(web, second, turning)]
            for turning in sums:
                for other in differences:
                    plan = plan_by(web, wishes, turning, other)
                    self.assertIs(is_sound(web, wishes, plan), True)
                    self.assertIs(does_fit(web, plan) and does_serve(wishes, plan) and in_wholes(web, wishes, plan), True)
            self.assertEqual(bool(sums and differences), is_even(web, wishes) and over(web, wishes) == [])

    def test_94_turnings_told(self):
        for web, wishes in TRAFFIC:
            if is_even(web, wishes) and not over(web, wishes):
                plan = plan_by(web, wishes, *both_turned(web, wishes))
                self.assertIs(is_sound(web, wishes, plan) and does_fit(web, plan) and does_serve(wishes, plan), True)
                self.assertIs(in_wholes(web, wishes, plan), True)

    def test_94_wrong_turnings(self):
        wishes, right, left = ((0, 2, 2), (1, 3, 2)), (0, 2, 2, 0), (2, 0, 0, -2)
        self.assertIs(does_serve(wishes, plan_by(WIDE, wishes, right, left)), True)
        for value in NOT_TURNINGS + [left, (2, 2, 0, 0)]:
            with self.assertRaises(InvalidTurning) as caught:
                plan_by(WIDE, wishes, value, None)
            self.assertIs(caught.exception.value, value)
        for value in NOT_TURNINGS + [right, (2, 2, 0, 0)]:
            with self.assertRaises(InvalidTurning) as caught:
                plan_by(WIDE, wishes, right, value)
            self.assertIs(caught.exception.value, value)

    def test_93_not_two_wishes(self):
        for wishes in (((0, 2, 1),), ((0, 1, 1), (0, 2, 1), (1, 3, 1)), tuple([pair + (1,) for pair in combinations(range(4), 2)])):
            for call in [(surpluses,), (both_turned,), (plan_by, None, None), (two_answer,)]:
                with self.assertRaises(NotTwo):
                    call[0](WIDE, wishes, *call[1:])
        for call in [(surpluses,), (both_turned,), (plan_by, None, None), (two_answer,), (odd_places,), (is_even,)]:
            for wishes in NOT_WISHES + [((0, 4, 1),)]:
                with self.assertRaises(InvalidWishes) as caught:
                    call[0](WIDE, wishes, *call[1:])
                self.assertIs(caught.exception.value, wishes)

    def test_94_greatest_rooms_and_wishes(self):
        great = ("web", 4, tuple([(one, other, 20) for one, other, _ in SQUARE[2]]))
        self.assertEqual(two_answer(great, ((0, 2, 20), (1, 3, 20)))[0], "plan")
        self.assertEqual(two_answer(BOTH, ((0, 1, 20), (2, 3, 20)))[0], "cut")


if __name__ == "__main__":
    unittest.main()
