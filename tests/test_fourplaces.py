"""Four places, rings of five, good pairs, answers by cuts: [105] to [108]."""

import unittest
from itertools import combinations, permutations

from samples import (KITE, NOT_PAIRS, NOT_WISHES, SQUARE, STRANGE, TOUCHY, WIDE, Numbers, asked_by, does_fit, does_serve, is_sound,
                     plain_cuts, plain_sum, some_pairs, some_webs)
from test_hubs import ALL_OF_FIVE, NO_HUBS, members, plain_hubs
from wishways.errors import InvalidPairs, InvalidWishes, NotGood
from wishways.fourplaces import are_good, four_of, is_by_cuts, ring_of, told_by_cuts
from wishways.plans import in_halves, in_wholes
from wishways.served import serving_plan
from wishways.twopairs import is_even


def plain_ring(pairs):
    places = members(pairs)
    if len(places) != 5:
        return None
    rings = []
    for ring in permutations(places):
        sides = [{ring[at], ring[(at + 1) % 5]} for at in range(5)]
        if ring[0] == places[0] and ring[1] < ring[4] and all([set(pair) in sides for pair in pairs]):
            rings.append(ring)
    return min(rings) if rings else None


def is_plainly_good(pairs):
    return plain_hubs(pairs) is not None or len(members(pairs)) <= 4 or plain_ring(pairs) is not None


def over(web, wishes):
    return [cut for cut in sorted(plain_cuts(web[1])) if plain_sum(web[2], cut) < plain_sum(wishes, cut)]


def good_traffic(count, seed):
    """Webs with wishes of good pairs: of all, among four places, in rings, at two hubs."""
    numbers = Numbers(seed)
    made = []
    for web in some_webs(count, seed=seed + 1):
        while True:
            pairs = some_pairs(numbers, web[1])
            if len(made) % 3 == 0 and web[1] >= 4:
                pairs = some_pairs(numbers, 4)
            if len(made) % 3 == 1 and web[1] >= 5:
                pairs = tuple(sorted([tuple(sorted([place, (place + 2) % 5])) for place in range(5)][numbers.below(2):]))
            if is_plainly_good(pairs):
                break
        wishes = asked_by(numbers, pairs, 1 + numbers.below(5))
        if numbers.below(3) == 0:
            web = ("web", web[1], tuple([(one, other, room + room % 2) for one, other, room in web[2]]))
            wishes = tuple([(one, other, wish + wish % 2) for one, other, wish in wishes])
        made.append((web, wishes))
    return made


class Kinds(unittest.TestCase):
    def test_105_106_107_all_pairs_of_five_places(self):
        seen = []
        for pairs in ALL_OF_FIVE:
            places = members(pairs)
            self.assertEqual(four_of(pairs), tuple(places) if len(places) <= 4 else None)
            self.assertEqual(ring_of(pairs), plain_ring(pairs))
            self.assertIs(are_good(pairs), is_plainly_good(pairs))
            seen.append((plain_hubs(pairs) is None, len(places) <= 4, plain_ring(pairs) is None))
        self.assertEqual(len(set(seen)), 6)

    def test_105_106_107_others(self):
        numbers = Numbers(351)
        seen = []
        for _ in range(300):
            pairs = some_pairs(numbers, 6 + numbers.below(3))
            self.assertEqual(ring_of(pairs), plain_ring(pairs))
            self.assertIs(are_good(pairs), is_plainly_good(pairs))
            seen.append(are_good(pairs))
        self.assertGreater(min(seen.count(True), seen.count(False)), 60)

    def test_106_by_hand(self):
        ring = ((0, 2), (0, 3), (1, 2), (1, 4), (3, 4))
        self.assertEqual([ring_of(ring), ring_of(ring[1:]), ring_of(tuple(sorted(ring + ((2, 3),)))), ring_of(((0, 1), (2, 3), (4, 5)))],
                         [(0, 2, 1, 4, 3), (0, 2, 1, 4, 3), None, None])
        self.assertEqual(ring_of(((1, 3), (1, 7), (3, 5), (5, 6), (6, 7))), (1, 3, 5, 6, 7))
        # Fewer pairs let several rings: the least one is told.
        self.assertEqual([ring_of(((0, 1), (2, 3), (3, 4))), ring_of(((0, 1), (2, 3), (2, 4)))], [(0, 1, 2, 3, 4), (0, 1, 3, 2, 4)])
        self.assertEqual([four_of(((2, 5),)), four_of(((0, 7), (3, 5))), four_of(NO_HUBS[2])], [(2, 5), (0, 3, 5, 7), (0, 1, 2, 3)])
        self.assertEqual([are_good(NO_HUBS[0]), are_good(NO_HUBS[1]), are_good(NO_HUBS[2]), are_good(ring)], [False, False, True, True])

    def test_105_any_value(self):
        for value in NOT_PAIRS:
            for function in (four_of, ring_of, are_good):
                with self.assertRaises(InvalidPairs) as caught:
                    function(value)
                self.assertIs(caught.exception.value, value)


class Answers(unittest.TestCase):
    def test_108_answers_against_a_look_at_all_cuts(self):
        seen = []
        for web, wishes in good_traffic(180, 352):
            answer = told_by_cuts(web, wishes)
            cuts = over(web, wishes)
            self.assertIs(is_by_cuts(web, wishes, answer), True)
            if cuts:
                self.assertEqual(answer, ("cut", cuts[0]))
            else:
                word, plan = answer
                self.assertEqual(word, "plan")
                self.assertIs(is_sound(web, wishes, plan) and does_fit(web, plan) and does_serve(wishes, plan), True)
                if plain_hubs([wish[:2] for wish in wishes]) is not None:
                    self.assertIs(in_halves(web, wishes, plan), True)
                    if is_even(web, wishes):
                        self.assertIs(in_wholes(web, wishes, plan), True)
            # [107]: no good pairs are barred without an over-asked cut.
            self.assertEqual(serving_plan(web, wishes) is None, cuts != [])
            hubs = plain_hubs([wish[:2] for wish in wishes]) is not None
            seen.append((answer[0], hubs))
        for row in [("plan", True), ("plan", False), ("cut", True), ("cut", False)]:
            self.assertGreater(seen.count(row), 8)

    def test_108_cuts_judged(self):
        for web, wishes in good_traffic(60, 354):
            cuts = over(web, wishes)
            for cut in plain_cuts(web[1]):
                self.assertIs(is_by_cuts(web, wishes, ("cut", cut)), cut in cuts[:1])

    def test_108_plans_judged(self):
        wishes, even = ((0, 2, 1), (1, 3, 1)), ((0, 2, 2), (1, 3, 2))
        halves = (((0, 1, 2), (1, 2)), ((0, 3, 2), (1, 2)), ((1, 0, 3), (1, 2)), ((1, 2, 3), (1, 2)))
        wholes = tuple([(way, (1, 1)) for way, _ in halves])
        thirds = (((0, 1, 2), (1, 3)), ((0, 3, 2), (2, 3)), ((1, 0, 3), (1, 3)), ((1, 2, 3), (2, 3)))
        self.assertIs(is_by_cuts(SQUARE, wishes, ("plan", halves)), True)
        self.assertIs(is_by_cuts(WIDE, even, ("plan", wholes)), True)
        self.assertIs(is_by_cuts(WIDE, wishes, ("plan", thirds)), False)
        self.assertIs(is_by_cuts(WIDE, wishes, ("plan", halves)), True)
        self.assertIs(is_by_cuts(WIDE, ((0, 2, 1), (1, 3, 2)), ("plan", halves[:2] + wholes[2:])), True)
        self.assertIs(is_by_cuts(WIDE, even, ("plan", (((0, 1, 2), (3, 2)), ((0, 3, 2), (1, 2)), ((1, 0, 3), (3, 2)), ((1, 2, 3), (1, 2))))), False)
        # Not at two hubs: whatever fits and serves.
        six = tuple([pair + (1,) for pair in combinations(range(4), 2)])
        roomy = ("web", 4, tuple([pair + (2,) for pair in combinations(range(4), 2)]))
        plan = tuple(sorted([((one, other), (1, 1)) for one, other, _ in six[1:]] + [((0, 1), (2, 3)), ((0, 2, 1), (1, 3))]))
        self.assertIs(is_by_cuts(roomy, six, ("plan", plan)), True)
        self.assertIs(is_by_cuts(roomy, six, ("plan", plan[1:])), False)

    def test_108_any_value(self):
        halves = (((0, 1, 2), (1, 2)), ((0, 3, 2), (1, 2)), ((1, 0, 3), (1, 2)), ((1, 2, 3), (1, 2)))
        for web, wishes, good in [(SQUARE, ((0, 2, 1), (1, 3, 1)), ("plan", halves)), (SQUARE, ((0, 2, 9),), ("cut", (1, 2)))]:
            self.assertIs(is_by_cuts(web, wishes, good), True)
            for value in STRANGE + [list(good), good + (1,), good[:1], ("plane",) + good[1:], (b"cut", (1, 2)), ("cut", [1, 2]), ("cut", (True, 2)),
                                    ("cut", TOUCHY), ("plan", TOUCHY), ("cut", None), ("plan", list(halves)), ("plan", ()), ("cut", ()),
                                    ("lengths", (1, 1, 1, 1)), ("cut", (2, 1)), ("cut", (0, 3))]:
                self.assertIs(is_by_cuts(web, wishes, value), False)

    def test_108_not_good(self):
        web = ("web", 6, tuple([(0, place, 1) for place in range(1, 6)]))
        for pairs in NO_HUBS[:2]:
            wishes = tuple([pair + (1,) for pair in pairs])
            for call in [(told_by_cuts,), (is_by_cuts, None)]:
                with self.assertRaises(NotGood):
                    call[0](web, wishes, *call[1:])
        for wishes in NOT_WISHES + [((0, 4, 1),), ((0, 1, 1), (2, 3, 1), (4, 5, 1))]:
            for call in [(told_by_cuts,), (is_by_cuts, None)]:
                with self.assertRaises(InvalidWishes) as caught:
                    call[0](KITE, wishes, *call[1:])
                self.assertIs(caught.exception.value, wishes)


if __name__ == "__main__":
    unittest.main()
