"""Flows and plans of one pair: [7], [41], [42], [43]."""

import unittest
from itertools import product

from samples import BOTH, KITE, LEAST, LINE, RING, STRANGE, TOUCHY, WHEEL, Numbers, plain_least, plain_ways, some_webs, twos
from wishways.errors import InvalidFlow, InvalidPlace, InvalidWish
from wishways.flows import flow_plan, greatest_flow, is_flow, is_greatest, pair_answer, value_of

WEBS = [LEAST, LINE, RING, KITE, BOTH, WHEEL] + some_webs(35, seed=51)
THREE = ("web", 3, ((0, 1, 2), (0, 2, 1), (1, 2, 2)))


def more_away(web, flow, place):
    away = 0
    for (one, other, _), much in zip(web[2], flow):
        away += much if one == place else -much if other == place else 0
    return away


def judged(web, one, other, flow):
    """Whether a tuple of as many INTEGERS as ties is a flow."""
    if any([much > tie[2] or -much > tie[2] for tie, much in zip(web[2], flow)]):
        return False
    return all([more_away(web, flow, place) == 0 for place in range(web[1]) if place not in (one, other)])


class IsFlow(unittest.TestCase):
    def test_41_all_tuples_of_small_webs(self):
        for web in [LEAST, LINE, THREE, ("web", 4, ((0, 1, 1), (0, 2, 1), (1, 2, 2), (2, 3, 1)))]:
            for flow in product(range(-3, 4), repeat=len(web[2])):
                for one, other in twos(web[1]):
                    so = judged(web, one, other, flow)
                    self.assertIs(is_flow(web, one, other, flow), so)
                    if so:
                        self.assertEqual(value_of(web, one, other, flow), more_away(web, flow, one))
                        self.assertEqual(value_of(web, other, one, flow), -more_away(web, flow, one))
                    greatest = so and more_away(web, flow, one) == plain_least(web, one, other)[1]
                    self.assertIs(is_greatest(web, one, other, flow), greatest)

    def test_41_any_value(self):
        for function in (is_flow, is_greatest):
            for value in STRANGE + [[1, 0, 0, 1, 0], (True, 0, 0, 1, 0), (1, False, 0, 1, 0), (1, 0, 0, 1), (1, 0, 0, 1, 0, 0),
                                    (1, 0, 0, None, 0), (1, 0, 0, "1", 0), (TOUCHY,) * 5, {0: 1}, "10010", [2, 1, 1, 1, 2],
                                    (2, 1, True, 1, 2), (2, True, True, True, 2)]:
                self.assertIs(function(KITE, 0, 3, value), False)
        self.assertIs(is_flow(KITE, 0, 3, (1, 0, 0, 1, 0)), True)
        self.assertIs(is_greatest(KITE, 0, 3, (1, 0, 0, 1, 0)), False)
        self.assertIs(is_greatest(KITE, 0, 3, (2, 1, 1, 1, 2)), True)

    def test_41_a_round_may_go_besides(self):
        round_flow = (1, -1, 1, 0, 0)
        self.assertIs(is_flow(KITE, 0, 3, round_flow), True)
        self.assertEqual(value_of(KITE, 0, 3, round_flow), 0)
        self.assertIs(is_flow(KITE, 1, 2, (0, 0, 0, 0, 0)), True)

    def test_41_wrong_flows(self):
        for value in STRANGE + [[1, 0, 0, 1, 0], (1, 0, 0, 0, 0), (3, 0, 0, 1, 0), (True, 0, 0, 1, 0), (0, 0, 0, 0)]:
            with self.assertRaises(InvalidFlow) as caught:
                value_of(KITE, 0, 3, value)
            self.assertIs(caught.exception.value, value)

    def test_2_like_places_are_refused(self):
        for call in [(is_flow, None), (value_of, None), (greatest_flow,), (is_greatest, None), (flow_plan,), (pair_answer, None)]:
            for one, other, value in [(2, 2, 2), (0, 0, 0), (2, True, True), (4, 4, 4), (None, 2, None)]:
                with self.assertRaises(InvalidPlace) as caught:
                    call[0](RING, one, other, *call[1:])
                self.assertIs(caught.exception.value, value)


class Greatest(unittest.TestCase):
    def test_42_as_great_as_the_least_cut(self):
        for web in WEBS:
            for one, other in twos(web[1]):
                flow = greatest_flow(web, one, other)
                self.assertIs(type(flow), tuple)
                self.assertTrue(all([type(much) is int for much in flow]))
                self.assertIs(judged(web, one, other, flow), True)
                self.assertEqual(more_away(web, flow, one), plain_least(web, one, other)[1])
                self.assertEqual(value_of(web, one, other, flow), plain_least(web, one, other)[1])
                self.assertIs(is_flow(web, one, other, flow), True)
                self.assertIs(is_greatest(web, one, other, flow), True)
                self.assertIs(is_greatest(web, other, one, flow), False)

    def test_42_sent_back(self):
        # The first way there is blocks two others until some of it is sent back.
        web = ("web", 4, ((0, 1, 1), (0, 2, 1), (1, 2, 1), (1, 3, 1), (2, 3, 1)))
        self.assertEqual(value_of(web, 0, 3, greatest_flow(web, 0, 3)), 2)
        long = ("web", 6, ((0, 1, 1), (0, 2, 1), (1, 3, 1), (1, 4, 1), (2, 3, 1), (3, 5, 1), (4, 5, 1)))
        self.assertEqual(value_of(long, 0, 5, greatest_flow(long, 0, 5)), 2)


class Plans(unittest.TestCase):
    def told(self, web, pair, plan):
        """What a plan in wholes that fits gives the pair."""
        self.assertIs(type(plan), tuple)
        self.assertEqual(list(plan), sorted(plan))
        self.assertEqual(len({way for way, _ in plan}), len(plan))
        ways = plain_ways(web, *pair)
        loads = {tie[:2]: 0 for tie in web[2]}
        for row in plan:
            self.assertIs(type(row), tuple)
            way, (number, under) = row
            self.assertIs(type(row[1]), tuple)
            self.assertIn(way, ways)
            self.assertEqual(under, 1)
            self.assertGreaterEqual(number, 1)
            for one, other in zip(way, way[1:]):
                loads[(min(one, other), max(one, other))] += number
        for one, other, room in web[2]:
            self.assertLessEqual(loads[(one, other)], room)
        return sum([ratio[0] for _, ratio in plan])

    def test_43_just_so_much(self):
        for web in WEBS:
            for one, other in twos(web[1]):
                pair = (min(one, other), max(one, other))
                self.assertEqual(self.told(web, pair, flow_plan(web, one, other)), plain_least(web, one, other)[1])

    def test_43_one_wish(self):
        for web in WEBS:
            for one, other in twos(web[1]):
                cuts, room = plain_least(web, one, other)
                for wish in {1, 20, max(1, min(20, room - 1)), min(20, room), min(20, room + 1), min(20, room + 5)}:
                    answer = pair_answer(web, one, other, wish)
                    self.assertIs(type(answer), tuple)
                    if wish > room:
                        self.assertEqual(answer, ("cut", cuts[0]))
                    else:
                        self.assertEqual(answer[0], "plan")
                        self.assertEqual(len(answer), 2)
                        self.assertEqual(self.told(web, (min(one, other), max(one, other)), answer[1]), wish)

    def test_43_one_tie(self):
        self.assertEqual([pair_answer(LEAST, 0, 1, 1), pair_answer(LEAST, 1, 0, 1), pair_answer(LEAST, 0, 1, 2)],
                         [("plan", (((0, 1), (1, 1)),)), ("plan", (((0, 1), (1, 1)),)), ("cut", (1,))])
        self.assertEqual(flow_plan(LINE, 2, 0), (((0, 1, 2), (3, 1)),))
        self.assertEqual(pair_answer(LINE, 2, 0, 2), ("plan", (((0, 1, 2), (2, 1)),)))

    def test_43_wrong_wishes(self):
        for wish in [0, 21, -1, True, None, "1", (1,), [1], 10 ** 39, {}, TOUCHY]:
            with self.assertRaises(InvalidWish) as caught:
                pair_answer(RING, 0, 1, wish)
            self.assertIs(caught.exception.value, wish)
        self.assertEqual(pair_answer(WHEEL, 0, 2, 20)[0], "plan")
        self.assertEqual(pair_answer(LEAST, 0, 1, 20), ("cut", (1,)))


class Chance(unittest.TestCase):
    def test_42_no_flow_is_beyond_a_cut(self):
        numbers = Numbers(52)
        for web in WEBS[:20]:
            flow = tuple([numbers.below(2 * tie[2] + 1) - tie[2] for tie in web[2]])
            for one, other in twos(web[1]):
                self.assertIs(is_flow(web, one, other, flow), judged(web, one, other, flow))


if __name__ == "__main__":
    unittest.main()
