"""Rim traffic, its steps, and which of them meet: [131], [132]."""

import unittest

from samples import (FLAT_BOW, FLAT_FOUR, FLAT_KITE, FLAT_PAIR, NOT_FLATS, NOT_STEPS, NOT_WISHES, TOUCHY, Numbers, some_flats,
                     some_rim_traffic, some_wishes)
from test_duals import plain_paths
from wishways.errors import InvalidFlat, InvalidStep
from wishways.faces import face_left, faces_of
from wishways.rims import between, do_meet, is_rim_traffic, rim_steps

FLATS = some_flats(120, seed=531) + [FLAT_KITE, FLAT_PAIR, FLAT_BOW, FLAT_FOUR]


def two_steps(flat):
    many = len(flat[3])
    return [(step, later) for step in range(many) for later in range(step + 1, many)]


def plain_steps(flat):
    """The list of the two places of each step."""
    return [(flat[3][at], flat[3][(at + 1) % len(flat[3])]) for at in range(len(flat[3]))]


def does_plainly_meet(flat, step, later):
    """The least tuple (rooms, path) between the backs of two steps, None if they don't meet; a twin's path is ()."""
    near, far = plain_steps(flat)[step], plain_steps(flat)[later]
    if near == far[::-1]:
        return (None, ())
    rim = faces_of(flat).index(flat[3])
    backs = [face_left(flat, other, one) for one, other in (near, far)]
    if rim in backs:
        return None
    paths = plain_paths(flat, backs[0], backs[1])
    return min(paths) if paths else None


class Rims(unittest.TestCase):
    def test_131_rim_traffic(self):
        numbers, seen = Numbers(532), []
        for flat in FLATS:
            for _ in range(5):
                wishes = some_wishes(numbers, flat[1][1])
                at_rim = all([place in flat[3] for wish in wishes for place in wish[:2]])
                self.assertIs(is_rim_traffic(flat, wishes), at_rim)
                seen.append(at_rim)
        self.assertGreater(min(seen.count(True), seen.count(False)), 50)
        for flat, wishes in some_rim_traffic(60, seed=533):
            self.assertIs(is_rim_traffic(flat, wishes), True)

    def test_131_any_values(self):
        good = ((0, 1, 2), (0, 2, 3))
        self.assertIs(is_rim_traffic(FLAT_FOUR, good), True)
        for value in NOT_FLATS:
            self.assertIs(is_rim_traffic(value, good), False)
        for value in NOT_WISHES + [((0, 3, 1),), ((0, 1, 2), (1, 3, 1)), ((0, 5, 1),), list(good)]:
            self.assertIs(is_rim_traffic(FLAT_FOUR, value), False)

    def test_131_steps(self):
        for flat in FLATS:
            rim = faces_of(flat).index(flat[3])
            steps = rim_steps(flat)
            self.assertEqual(len(steps), len(flat[3]))
            for (one, other), (tie, back) in zip(plain_steps(flat), steps):
                self.assertEqual(set(flat[1][2][tie][:2]), {one, other})
                stands = face_left(flat, other, one)
                self.assertEqual(back, None if stands == rim else stands)

    def test_131_between(self):
        for flat in FLATS:
            for step, later in two_steps(flat):
                self.assertEqual(between(flat, step, later), sorted({flat[3][at] for at in range(step + 1, later + 1)}))

    def test_132_meet(self):
        seen = []
        for flat in FLATS:
            for step, later in two_steps(flat):
                meets = does_plainly_meet(flat, step, later) is not None
                self.assertIs(do_meet(flat, step, later), meets)
                seen.append(meets)
        self.assertGreater(min(seen.count(True), seen.count(False)), 300)

    def test_132_by_hand(self):
        self.assertEqual(rim_steps(FLAT_PAIR), [(0, None), (0, None)])
        self.assertEqual(rim_steps(FLAT_BOW), [(0, 1), (3, 2), (5, 2), (6, None), (6, None), (4, 2), (2, 1), (1, 1)])
        self.assertEqual([between(FLAT_BOW, 0, 5), between(FLAT_BOW, 2, 4), between(FLAT_BOW, 0, 7), between(FLAT_BOW, 3, 4)],
                         [[1, 3, 4, 5], [4, 5], [1, 2, 3, 4, 5], [5]])
        meets = [(step, later) for step, later in two_steps(FLAT_BOW) if do_meet(FLAT_BOW, step, later)]
        self.assertEqual(meets, [(0, 6), (0, 7), (1, 2), (1, 5), (2, 5), (3, 4), (6, 7)])

    def test_131_wrong(self):
        for value in NOT_FLATS:
            for function in (rim_steps, lambda flat: between(flat, TOUCHY, TOUCHY), lambda flat: do_meet(flat, TOUCHY, TOUCHY)):
                with self.assertRaises(InvalidFlat) as caught:
                    function(value)
                self.assertIs(caught.exception.value, value)
        for function in (between, do_meet):
            for value in NOT_STEPS:
                for step, later in ((value, TOUCHY), (value, 3), (0, value)):
                    with self.assertRaises(InvalidStep) as caught:
                        function(FLAT_KITE, step, later)
                    self.assertIs(caught.exception.value, value)
            for step in range(4):
                for later in range(step + 1):
                    with self.assertRaises(InvalidStep) as caught:
                        function(FLAT_KITE, step, later)
                    self.assertEqual(caught.exception.value, later)


if __name__ == "__main__":
    unittest.main()
