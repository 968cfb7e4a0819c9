"""Webs drawn flat, by rounds and by points, mirrored: [121], [122], [126]."""

import unittest
from itertools import combinations, permutations, product

from samples import (FLAT_BOW, FLAT_FOUR, FLAT_KITE, FLAT_PAIR, GOOD_POINTS, KITE, NOT_FLATS, NOT_POINTS, NOT_WEBS, STRANGE, TOUCHY, WHEEL,
                     Numbers, does_plainly_draw, plain_faces, plain_rounds, some_drawn, some_flats, some_points, some_web)
from wishways.duals import circuits
from wishways.errors import InvalidFlat, InvalidPoints, InvalidWeb
from wishways.faces import faces_of
from wishways.flats import flat_by_points, is_flat, mirrored, rim_places

FLATS = some_flats(140, seed=501) + [FLAT_KITE, FLAT_PAIR, FLAT_BOW, FLAT_FOUR]


def all_rounds(web):
    """All rounds of a web."""
    ends = [sorted([one + other - place for one, other, _ in web[2] if place in (one, other)]) for place in range(web[1])]
    return product(*[[tuple(row[:1]) + rest for rest in permutations(row[1:])] for row in ends])


def plain_web(many, pairs):
    return ("web", many, tuple([pair + (1,) for pair in sorted(pairs)]))


def flat_rounds(web):
    """The list of the rounds by which a web is flat, with its first face as the rim."""
    return [rounds for rounds in all_rounds(web) if is_flat(("flat", web, rounds, plain_faces(rounds)[0]))]


def area(points, face):
    """Twice the area, by the triangles from the first place of the face on."""
    first, total = points[face[0]], 0
    for one, other in zip(face, face[1:]):
        a, b = points[one], points[other]
        total += (a[0] - first[0]) * (b[1] - first[1]) - (a[1] - first[1]) * (b[0] - first[0])
    return total


class Rounds(unittest.TestCase):
    def test_121_exactly_by_places_ties_and_faces(self):
        numbers, seen = Numbers(502), []
        for at in range(60):
            web = some_web(numbers, 2 + at % 4)
            for rounds in list(all_rounds(web))[:40]:
                faces = plain_faces(rounds)
                flat = web[1] - len(web[2]) + len(faces) == 2
                for face in faces[:3]:
                    self.assertIs(is_flat(("flat", web, rounds, face)), flat)
                seen.append(flat)
        self.assertGreater(min(seen.count(True), seen.count(False)), 60)

    def test_121_all_four_tied_are_flat_in_two_ways(self):
        four = plain_web(4, combinations(range(4), 2))
        self.assertEqual([len(list(all_rounds(four))), len(flat_rounds(four))], [16, 2])
        self.assertEqual(flat_rounds(four)[1], mirrored(("flat", four, flat_rounds(four)[0], (0, 1, 2)
                         if (0, 1, 2) in plain_faces(flat_rounds(four)[0]) else (0, 2, 1)))[2])

    def test_121_rings_and_trees_are_flat_whatever_the_rounds(self):
        star = plain_web(5, [(0, place) for place in range(1, 5)])
        self.assertEqual([len(flat_rounds(star)), len(list(all_rounds(star)))], [6, 6])
        ring = plain_web(8, [(place, place + 1) for place in range(7)] + [(0, 7)])
        self.assertEqual(len(flat_rounds(ring)), 1)

    def test_121_three_tied_to_three_never(self):
        bound = plain_web(6, [(one, other) for one in range(3) for other in range(3, 6)])
        self.assertEqual([len(list(all_rounds(bound))), flat_rounds(bound)], [64, []])
        five = plain_web(5, combinations(range(5), 2))
        self.assertEqual(flat_rounds(("web", 5, five[2][:9])) != [], True)
        for at, rounds in enumerate(all_rounds(five)):
            if at % 7 == 0:
                self.assertFalse(is_flat(("flat", five, rounds, plain_faces(rounds)[0])))

    def test_121_rim_one_of_the_faces_as_it_is_written(self):
        for flat in FLATS:
            faces = plain_faces(flat[2])
            for face in faces:
                self.assertTrue(is_flat(flat[:3] + (face,)))
                for at in range(1, len(face)):
                    self.assertFalse(is_flat(flat[:3] + (face[at:] + face[:at],)))
                self.assertFalse(is_flat(flat[:3] + (face[:-1],)))
                self.assertFalse(is_flat(flat[:3] + (list(face),)))

    def test_121_rounds_from_the_least_on(self):
        for flat in FLATS:
            for place, circle in enumerate(flat[2]):
                for at in range(1, len(circle)):
                    turned = flat[2][:place] + (circle[at:] + circle[:at],) + flat[2][place + 1:]
                    self.assertFalse(is_flat(flat[:2] + (turned,) + flat[3:]))
                lacking = flat[2][:place] + (circle[:-1],) + flat[2][place + 1:]
                self.assertFalse(is_flat(flat[:2] + (lacking,) + flat[3:]))

    def test_121_any_value(self):
        for value in NOT_FLATS + NOT_WEBS:
            self.assertIs(is_flat(value), False)
            self.assertIs(is_flat(("flat", value, FLAT_KITE[2], FLAT_KITE[3])), False)
            self.assertIs(is_flat(FLAT_KITE[:2] + (value,) + FLAT_KITE[3:]), False)
            self.assertIs(is_flat(FLAT_KITE[:2] + (((1, 2), (0, 3, 2), (0, 1, 3), value),) + FLAT_KITE[3:]), False)
            self.assertIs(is_flat(FLAT_KITE[:3] + (value,)), False)

    def test_121_rim_places(self):
        for flat in FLATS:
            self.assertEqual(rim_places(flat), [place for place in range(flat[1][1]) if place in flat[3]])
        self.assertEqual([rim_places(FLAT_BOW), rim_places(FLAT_FOUR)], [[0, 1, 2, 3, 4, 5], [0, 1, 2]])

    def test_121_wrong(self):
        for value in NOT_FLATS:
            for function in (mirrored, rim_places):
                with self.assertRaises(InvalidFlat) as caught:
                    function(value)
                self.assertIs(caught.exception.value, value)


class Points(unittest.TestCase):
    def test_122_drawn(self):
        numbers = Numbers(503)
        for at in range(200):
            web, points = some_drawn(numbers, 2 + at % 7, 3 + at % 4, 9)
            flat = flat_by_points(web, points)
            rounds = plain_rounds(web, points)
            self.assertEqual(flat[:3], ("flat", web, rounds))
            self.assertTrue(is_flat(flat))
            outer = [face for face in plain_faces(rounds) if area(points, face) <= 0]
            self.assertEqual(outer, [flat[3]])

    def test_122_exactly_what_draws(self):
        numbers, seen = Numbers(504), []
        for at in range(500):
            web = some_web(numbers, 2 + at % 5)
            points = some_points(numbers, web[1], 3 + at % 3)
            if at % 10 == 0:
                points = points[:-1] + points[:1]
            draws = does_plainly_draw(web, points)
            seen.append(draws)
            if draws:
                self.assertEqual(flat_by_points(web, points)[:3], ("flat", web, plain_rounds(web, points)))
            else:
                with self.assertRaises(InvalidPoints) as caught:
                    flat_by_points(web, points)
                self.assertIs(caught.exception.value, points)
        self.assertGreater(min(seen.count(True), seen.count(False)), 60)

    def test_122_in_a_line(self):
        line = plain_web(3, [(0, 1), (1, 2)])
        self.assertEqual(flat_by_points(line, ((0, 0), (1, 1), (2, 2))), ("flat", line, ((1,), (0, 2), (1,)), (0, 1, 2, 1)))
        for points in (((0, 0), (2, 2), (1, 1)), ((0, 0), (1, 1), (0, 0)), ((1, 1), (0, 0), (1, 1)), ((1, 1), (0, 0), (2, 2))):
            with self.assertRaises(InvalidPoints):
                flat_by_points(line, points)
        # Straight on through a place, both ways, with ties up and down.
        cross = plain_web(5, [(0, 4), (1, 4), (2, 4), (3, 4)])
        self.assertEqual(flat_by_points(cross, ((0, 1), (0, -1), (1, 0), (-1, 0), (0, 0)))[2][4], (0, 2, 1, 3))
        self.assertEqual(flat_by_points(cross, ((1, 0), (-1, 0), (0, 1), (0, -1), (0, 0)))[2][4], (0, 3, 1, 2))

    def test_122_a_place_on_a_tie_of_others_is_barred_also_where_it_is_tied(self):
        three = plain_web(3, combinations(range(3), 2))
        with self.assertRaises(InvalidPoints):
            flat_by_points(three, ((0, 0), (1, 0), (2, 0)))
        self.assertEqual(flat_by_points(three, ((0, 0), (1, 0), (2, 1)))[2:], (((1, 2), (0, 2), (0, 1)), (0, 2, 1)))
        self.assertEqual(flat_by_points(three, ((0, 0), (2, 1), (1, 0)))[3], (0, 1, 2))

    def test_122_farthest_and_nearest(self):
        pair = ("web", 2, ((0, 1, 1),))
        for points in (((10000, -10000), (-10000, 10000)), ((0, 0), (0, 1))):
            self.assertEqual(flat_by_points(pair, points), ("flat", pair, ((1,), (0,)), (0, 1)))
        kite = ((-10000, -10000), (-10000, 10000), (10000, -10000), (10000, 9999))
        self.assertEqual(flat_by_points(KITE, kite), FLAT_KITE)
        # A place 1 in 20,000 beside the tie, and one on it.
        ties = plain_web(4, [(0, 1), (0, 2), (1, 2), (2, 3)])
        self.assertEqual(flat_by_points(ties, ((-10000, -10000), (10000, 9999), (0, 0), (-9999, 10000)))[2][2], (0, 3, 1))
        for points in (((-10000, -10000), (10000, 10000), (0, 0), (-9999, 10000)), ((-10000, -10000), (10000, 9999), (0, 0), (9999, -10000))):
            with self.assertRaises(InvalidPoints):
                flat_by_points(ties, points)

    def test_122_wrong_points(self):
        self.assertEqual(flat_by_points(KITE, GOOD_POINTS), FLAT_KITE)
        for value in NOT_POINTS:
            with self.assertRaises(InvalidPoints) as caught:
                flat_by_points(KITE, value)
            self.assertIs(caught.exception.value, value)
        for value in NOT_WEBS:
            for points in (GOOD_POINTS, None, TOUCHY):
                with self.assertRaises(InvalidWeb) as caught:
                    flat_by_points(value, points)
                self.assertIs(caught.exception.value, value)

    def test_122_other_pairs_cross_nothing(self):
        # A tie may lead to a point that would lie on a line drawn longer.
        web = plain_web(5, [(0, 1), (1, 4), (2, 3), (3, 4)])
        self.assertTrue(is_flat(flat_by_points(web, ((0, 0), (1, 0), (2, 0), (3, 0), (2, 5)))))
        with self.assertRaises(InvalidPoints):
            flat_by_points(plain_web(5, [(0, 1), (0, 4), (2, 3), (3, 4)]), ((0, 0), (2, 0), (1, 0), (3, 0), (2, 5)))


class Mirrored(unittest.TestCase):
    def test_126(self):
        for flat in FLATS:
            other = mirrored(flat)
            self.assertTrue(is_flat(other))
            self.assertEqual(other[:2], flat[:2])
            self.assertEqual(mirrored(other), flat)
            self.assertEqual(len(faces_of(other)), len(faces_of(flat)))
            self.assertEqual(circuits(other), circuits(flat))
            steps = {(one, place) for one, place in zip(flat[3], flat[3][1:] + flat[3][:1])}
            self.assertEqual({(one, place) for one, place in zip(other[3], other[3][1:] + other[3][:1])}, {step[::-1] for step in steps})
            for circle, turned in zip(flat[2], other[2]):
                self.assertEqual(turned, (circle[0],) + tuple(reversed(circle[1:])))

    def test_126_by_points(self):
        numbers = Numbers(505)
        for at in range(60):
            web, points = some_drawn(numbers, 2 + at % 7, 5, 9)
            glass = tuple([(-right, up) for right, up in points])
            self.assertEqual(flat_by_points(web, glass), mirrored(flat_by_points(web, points)))

    def test_126_by_hand(self):
        self.assertEqual(mirrored(FLAT_PAIR), FLAT_PAIR)
        self.assertEqual(mirrored(FLAT_KITE)[2:], (((1, 2), (0, 2, 3), (0, 3, 1), (1, 2)), (0, 2, 3, 1)))
        self.assertEqual(mirrored(FLAT_BOW)[2:], (((1, 2), (0, 2, 4, 3), (0, 1), (1, 4), (1, 5, 3), (4,)), (0, 2, 1, 4, 5, 4, 3, 1)))
        self.assertFalse(is_flat(("flat", WHEEL, ((1,),) * 8, (0, 1))))
        self.assertEqual([type(value) for value in STRANGE if is_flat(value)], [])


if __name__ == "__main__":
    unittest.main()
