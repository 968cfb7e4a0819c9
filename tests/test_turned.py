"""Turnings and the surpluses that they have: [92]."""

import unittest
from itertools import product

from samples import (BOTH, KITE, LEAST, LINE, NOT_SURPLUSES, NOT_TURNINGS, RING, SQUARE, STRANGE, WHEEL, WIDE, Numbers, plain_cuts, plain_sum,
                     some_webs)
from wishways.errors import InvalidSurplus, InvalidTurning
from wishways.turned import is_turned, is_turning, surplus_of, turned, turned_bar

SMALL = [LEAST, LINE, RING, KITE, SQUARE, WIDE, ("web", 3, ((0, 1, 1), (0, 2, 2), (1, 2, 2)))]


def plain_turnings(web):
    """All turnings, each tie from all its steps one way to all the other way."""
    return list(product(*[range(-tie[2], tie[2] + 1, 2) for tie in web[2]]))


def plain_surplus(web, turning):
    made = [0] * web[1]
    for (one, other, _), much in zip(web[2], turning):
        made[one] += much
        made[other] -= much
    return made


def odd_ones(web, surplus):
    rooms = [sum([room for one, other, room in web[2] if place in (one, other)]) for place in range(web[1])]
    return [place for place in range(web[1]) if rooms[place] % 2 != surplus[place] % 2]


def barring_cuts(web, surplus):
    return [cut for cut in sorted(plain_cuts(web[1])) if abs(sum([surplus[place] for place in cut])) > plain_sum(web[2], cut)]


class Turnings(unittest.TestCase):
    def test_92_all_small_tuples(self):
        for web in [LEAST, SQUARE, ("web", 3, ((0, 1, 1), (0, 2, 2), (1, 2, 2)))]:
            turnings = plain_turnings(web)
            for value in product(range(-3, 4), repeat=len(web[2])):
                self.assertIs(is_turning(web, value), value in turnings)
                if value in turnings:
                    self.assertEqual(surplus_of(web, value), plain_surplus(web, value))

    def test_92_any_value(self):
        for value in NOT_TURNINGS:
            self.assertIs(is_turning(WIDE, value), False)
            self.assertIs(is_turned(WIDE, [0] * 4, value), False)
            with self.assertRaises(InvalidTurning) as caught:
                surplus_of(WIDE, value)
            self.assertIs(caught.exception.value, value)
        for value in [(2, 2, 2, 2), (-2, -2, -2, -2), (0, 0, 0, 0), (2, 0, -2, 0)]:
            self.assertIs(is_turning(WIDE, value), True)
        self.assertIs(is_turning(SQUARE, (0, 0, 0, 0)), False)

    def test_92_is_turned(self):
        for web in SMALL[:5]:
            turnings = plain_turnings(web)
            for turning in turnings:
                surplus = plain_surplus(web, turning)
                self.assertIs(is_turned(web, surplus, turning), True)
                self.assertIs(is_turned(web, tuple(surplus), turning), True)
                self.assertIs(is_turned(web, [0] * web[1], turning), surplus == [0] * web[1])
        for value in STRANGE:
            self.assertIs(is_turned(KITE, [0, 0, 0, 0], value), False)


class Had(unittest.TestCase):
    def judge(self, web, surplus, so):
        found, bar = turned(web, surplus), turned_bar(web, surplus)
        self.assertEqual([found is not None, bar is None], [so, so])
        if so:
            self.assertIs(type(found), tuple)
            self.assertEqual(plain_surplus(web, found), list(surplus))
            self.assertIs(is_turning(web, found) and is_turned(web, surplus, found), True)
        elif odd_ones(web, surplus):
            self.assertEqual(bar, ("odd", odd_ones(web, surplus)[0]))
        else:
            self.assertEqual(bar, ("cut", barring_cuts(web, surplus)[0]))
        return bar and bar[0]

    def test_92_all_surpluses_of_small_webs(self):
        seen = []
        for web in SMALL:
            had = {tuple(plain_surplus(web, turning)) for turning in plain_turnings(web)}
            most = 2 + max([sum([tie[2] for tie in web[2] if place in tie[:2]]) for place in range(web[1])])
            for ahead in product(range(-most, most + 1), repeat=web[1] - 1):
                surplus = ahead + (-sum(ahead),)
                if web[1] < 4 or sum([abs(number) for number in surplus]) <= 8:
                    seen.append(self.judge(web, surplus, surplus in had))
        self.assertEqual({word for word in seen}, {None, "odd", "cut"})

    def test_92_by_a_look_at_all_cuts(self):
        numbers = Numbers(321)
        seen = []
        for web in [BOTH, WHEEL] + some_webs(70, seed=322):
            for _ in range(6):
                surplus = plain_surplus(web, tuple([numbers.below(tie[2] + 1) * 2 - tie[2] for tie in web[2]]))
                self.assertIs(self.judge(web, surplus, True), None)
                one, other = numbers.below(web[1]), numbers.below(web[1])
                much = 2 * numbers.below(15)
                surplus[one] += much
                surplus[other] -= much
                seen.append(self.judge(web, surplus, barring_cuts(web, surplus) == []))
        self.assertGreater(min(seen.count(None), seen.count("cut")), 40)

    def test_92_at_the_room_and_beyond(self):
        self.assertEqual([turned(LEAST, [1, -1]), turned(LEAST, [-1, 1]), turned(LEAST, [0, 0]), turned(LEAST, [3, -3])],
                         [(1,), (-1,), None, None])
        self.assertEqual([turned_bar(LEAST, [0, 0]), turned_bar(LEAST, [3, -3]), turned_bar(LEAST, [-3, 3]), turned_bar(LEAST, (1, -1))],
                         [("odd", 0), ("cut", (1,)), ("cut", (1,)), None])
        self.assertEqual([turned_bar(LINE, [3, 1, -4]), turned_bar(LINE, [5, -1, -4]), turned_bar(LINE, [3, 3, -6])],
                         [None, ("cut", (1, 2)), ("cut", (2,))])

    def test_92_odd_ahead_of_cuts(self):
        self.assertEqual(turned_bar(SQUARE, [0, 1, 99, -100]), ("odd", 1))
        self.assertEqual(turned_bar(SQUARE, [0, 0, 100, -100]), ("cut", (1, 2)))

    def test_92_great_surpluses(self):
        great = 10 ** 39
        self.assertIs(turned(SQUARE, [great, 0, -great, 0]), None)
        self.assertEqual(turned_bar(SQUARE, [great, 0, -great, 0]), ("cut", (1, 2)))

    def test_92_wrong_surpluses(self):
        for value in NOT_SURPLUSES:
            for call in [(is_turned, None), (turned,), (turned_bar,)]:
                with self.assertRaises(InvalidSurplus) as caught:
                    call[0](WIDE, value, *call[1:])
                self.assertIs(caught.exception.value, value)


if __name__ == "__main__":
    unittest.main()
