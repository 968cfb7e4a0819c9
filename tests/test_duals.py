"""Turned webs, joined cuts and circuits, ways between faces: [123] to [126]."""

import unittest
from itertools import combinations, permutations, product

from samples import (FLAT_BOW, FLAT_FOUR, FLAT_KITE, FLAT_PAIR, NOT_CIRCUITS, NOT_CUTS, NOT_FLATS, NOT_PLACES, NOT_WEBS, STRANGE, TOUCHY,
                     plain_cuts, plain_joined, plain_sum, some_flats, some_webs)
from wishways.cuts import crossing_ties
from wishways.duals import (circuit_of_cut, circuits, cut_of_circuit, face_distances, face_path, is_circuit, is_joined_cut, joined_cuts,
                            turned_web)
from wishways.errors import InvalidCircuit, InvalidCut, InvalidFlat, InvalidPosition, InvalidWeb
from wishways.faces import face_left, faces_of, inner_faces
from wishways.flats import mirrored

FLATS = some_flats(120, seed=521) + [FLAT_KITE, FLAT_PAIR, FLAT_BOW, FLAT_FOUR]
SMALL = [flat for flat in FLATS if len(flat[1][2]) <= 6]


def is_plain_joined(web, cut):
    rest = [place for place in range(web[1]) if place not in cut]
    pairs = [tie[:2] for tie in web[2]]
    return plain_joined(list(cut), pairs) and plain_joined(rest, pairs)


def is_plain_circuit(flat, ties):
    """By the words of [124], for a tuple of unlike positions of ties."""
    sides = [{face_left(flat, one, other), face_left(flat, other, one)} for one, other, _ in flat[1][2]]
    told = [sides[tie] for tie in ties]
    if ties[0] != min(ties):
        return False
    if len(ties) == 1:
        return len(told[0]) == 1
    if len(ties) == 2:
        return told[0] == told[1] and len(told[0]) == 2
    if ties[1] > ties[-1]:
        return False
    common = [sorted(one & other) for one, other in zip(told, told[1:] + told[:1])]
    for faces in product(*common):
        if len(set(faces)) == len(faces) and all([told[at] == {faces[at - 1], faces[at]} for at in range(len(ties))]):
            return True
    return False


def plain_paths(flat, one, other):
    """All tuples (rooms, path) from face to face, into no face twice, never into the rim."""
    rim = faces_of(flat).index(flat[3])
    found, ahead = [], [(0, (), (one,))]
    while ahead:
        rooms, path, seen = ahead.pop()
        if seen[-1] == other:
            found.append((rooms, path))
            continue
        for at, (near, far, room) in enumerate(turned_web(flat)[2]):
            if seen[-1] in (near, far):
                face = near + far - seen[-1]
                if face != rim and face not in seen:
                    ahead.append((rooms + room, path + (at,), seen + (face,)))
    return found


class Turned(unittest.TestCase):
    def test_123(self):
        for flat in FLATS:
            word, many, ties = turned_web(flat)
            self.assertEqual([word, many, len(ties)], ["turned", len(faces_of(flat)), len(flat[1][2])])
            for (one, other, room), tie in zip(flat[1][2], ties):
                self.assertEqual(tie, (face_left(flat, one, other), face_left(flat, other, one), room))
            # Turned back: around each face the ties in the sequence of its steps lead to the faces beyond.
            for at, face in enumerate(faces_of(flat)):
                for one, other in zip(face, face[1:] + face[:1]):
                    position = [row[:2] for row in flat[1][2]].index((min(one, other), max(one, other)))
                    self.assertIn(at, ties[position][:2])

    def test_123_by_hand(self):
        self.assertEqual(turned_web(FLAT_PAIR), ("turned", 1, ((0, 0, 3),)))
        self.assertEqual(turned_web(FLAT_KITE), ("turned", 3, ((0, 1, 2), (1, 0, 1), (2, 1, 1), (0, 2, 1), (2, 0, 2))))
        self.assertEqual(turned_web(FLAT_BOW)[2], ((0, 1, 1), (1, 0, 2), (0, 1, 3), (0, 2, 2), (2, 0, 1), (0, 2, 2), (0, 0, 3)))


class Circuits(unittest.TestCase):
    def test_124_joined_cuts(self):
        for web in [flat[1] for flat in FLATS] + some_webs(60, seed=522):
            joined = [cut for cut in sorted(plain_cuts(web[1])) if is_plain_joined(web, cut)]
            self.assertEqual(joined_cuts(web), joined)
            for cut in plain_cuts(web[1])[:40]:
                self.assertIs(is_joined_cut(web, cut), cut in joined)

    def test_124_circuits_are_joined_cuts(self):
        sizes = []
        for flat in FLATS:
            joined = joined_cuts(flat[1])
            told = [circuit_of_cut(flat, cut) for cut in joined]
            for cut, circuit in zip(joined, told):
                self.assertTrue(is_plain_circuit(flat, circuit))
                self.assertIs(is_circuit(flat, circuit), True)
                self.assertEqual(sorted(circuit), crossing_ties(flat[1], cut))
                self.assertEqual(cut_of_circuit(flat, circuit), cut)
                sizes.append(min(len(circuit), 4))
            self.assertEqual([circuits(flat), len(set(told))], [sorted(told), len(joined)])
        for size in (1, 2, 3, 4):
            self.assertGreater(sizes.count(size), 30)

    def test_124_against_all_tuples_of_ties(self):
        for flat in SMALL[:30]:
            ties, found = range(len(flat[1][2])), []
            for many in range(1, len(ties) + 1):
                for chosen in permutations(ties, many):
                    plain = is_plain_circuit(flat, chosen)
                    self.assertIs(is_circuit(flat, chosen), plain)
                    if plain:
                        found.append(chosen)
            self.assertEqual(circuits(flat), sorted(found))
        self.assertGreater(len(SMALL), 20)

    def test_124_lots_of_ties_of_greater_webs(self):
        for flat in FLATS[::4]:
            told = circuits(flat)
            for many in (1, 2, 3):
                for chosen in combinations(range(len(flat[1][2])), many):
                    self.assertIs(is_circuit(flat, chosen), chosen in told)
            for circuit in told:
                for other in (circuit[1:] + circuit[:1], circuit[::-1], circuit[:-1], circuit + circuit[-1:], list(circuit), circuit + (0,)):
                    self.assertIs(is_circuit(flat, other), other in told and type(other) is tuple)

    def test_124_rooms_alike(self):
        for flat in FLATS:
            for cut in joined_cuts(flat[1]):
                room = sum([turned_web(flat)[2][at][2] for at in circuit_of_cut(flat, cut)])
                self.assertEqual(room, plain_sum(flat[1][2], cut))

    def test_124_by_hand(self):
        self.assertEqual([circuits(FLAT_PAIR), cut_of_circuit(FLAT_PAIR, (0,))], [[(0,)], (1,)])
        self.assertEqual(circuits(FLAT_BOW), [(0, 1), (0, 2), (1, 2), (3, 4), (3, 5), (4, 5), (6,)])
        self.assertEqual(circuits(FLAT_FOUR), [(0, 1, 2), (0, 1, 5, 4), (0, 2, 5, 3), (0, 3, 4), (1, 2, 4, 3), (1, 3, 5), (2, 4, 5)])
        self.assertEqual([circuits(mirrored(FLAT_FOUR)), cut_of_circuit(FLAT_FOUR, (0, 2, 5, 3))], [circuits(FLAT_FOUR), (1, 3)])

    def test_124_wrong(self):
        for value in NOT_CIRCUITS:
            self.assertIs(is_circuit(FLAT_KITE, value), False)
            with self.assertRaises(InvalidCircuit) as caught:
                cut_of_circuit(FLAT_KITE, value)
            self.assertIs(caught.exception.value, value)
        for value in NOT_CUTS + [(1, 2, 3, 4)]:
            with self.assertRaises(InvalidCut) as caught:
                circuit_of_cut(FLAT_FOUR, value)
            self.assertIs(caught.exception.value, value)
        for cut in [(1, 2, 5), (1, 3), (2, 3, 4, 5), (2, 4), (1,), (3, 4)]:
            self.assertIs(is_joined_cut(FLAT_BOW[1], cut), is_plain_joined(FLAT_BOW[1], cut))
            with self.assertRaises(InvalidCut) as caught:
                circuit_of_cut(FLAT_BOW, cut)
            self.assertIs(caught.exception.value, cut)
        for value in NOT_FLATS:
            for function in (turned_web, circuits, lambda flat: circuit_of_cut(flat, TOUCHY), lambda flat: cut_of_circuit(flat, TOUCHY),
                             lambda flat: is_circuit(flat, (0,)), lambda flat: face_distances(flat, TOUCHY),
                             lambda flat: face_path(flat, TOUCHY, TOUCHY)):
                with self.assertRaises(InvalidFlat) as caught:
                    function(value)
                self.assertIs(caught.exception.value, value)
        for value in NOT_WEBS:
            for function in (joined_cuts, lambda web: is_joined_cut(web, TOUCHY)):
                with self.assertRaises(InvalidWeb):
                    function(value)
        for value in STRANGE:
            self.assertIs(is_circuit(FLAT_BOW, value), False)


class Between(unittest.TestCase):
    def test_125_against_all_ways(self):
        seen = []
        for flat in FLATS:
            inner = inner_faces(flat)
            for one in inner:
                rooms = face_distances(flat, one)
                self.assertEqual([len(rooms), rooms[one], rooms[faces_of(flat).index(flat[3])]], [len(faces_of(flat)), 0, None])
                for other in inner:
                    paths = plain_paths(flat, one, other)
                    least = min(paths) if paths else (None, None)
                    self.assertEqual((rooms[other], face_path(flat, one, other)), least)
                    seen.append(len(paths))
        self.assertGreater(min(seen.count(0), seen.count(1)), 5)
        self.assertGreater(len([many for many in seen if many > 2]), 60)

    def test_125_alike_both_ways(self):
        for flat in FLATS[::3]:
            for one, other in combinations(inner_faces(flat), 2):
                self.assertEqual(face_distances(flat, one)[other], face_distances(flat, other)[one])

    def test_125_the_first_of_the_least(self):
        # A wheel of all rooms 1: from one of its four faces to the contrary one there are two ways.
        web = ("web", 5, ((0, 1, 1), (0, 2, 1), (0, 3, 1), (0, 4, 1), (1, 2, 1), (1, 4, 1), (2, 3, 1), (3, 4, 1)))
        flat = ("flat", web, ((1, 2, 3, 4), (0, 4, 2), (0, 1, 3), (0, 2, 4), (0, 3, 1)), (1, 2, 3, 4))
        self.assertEqual(faces_of(flat), [(0, 1, 4), (0, 2, 1), (0, 3, 2), (0, 4, 3), (1, 2, 3, 4)])
        self.assertEqual([face_distances(flat, 0), face_path(flat, 0, 2), face_path(flat, 2, 0)], [[0, 1, 2, 1, None], (0, 1), (1, 0)])
        self.assertEqual([face_path(flat, 1, 3), face_path(flat, 3, 1), face_path(flat, 1, 1)], [(0, 3), (2, 1), ()])

    def test_125_one_cannot_come_there(self):
        self.assertEqual([face_distances(FLAT_BOW, 1), face_path(FLAT_BOW, 1, 2), face_path(FLAT_BOW, 2, 2)], [[None, 0, None], None, ()])

    def test_125_wrong_positions(self):
        for value in NOT_PLACES + [0, 3, 4]:
            for function in (lambda at: face_distances(FLAT_KITE, at), lambda at: face_path(FLAT_KITE, at, TOUCHY),
                             lambda at: face_path(FLAT_KITE, 1, at)):
                with self.assertRaises(InvalidPosition) as caught:
                    function(value)
                self.assertIs(caught.exception.value, value)
        with self.assertRaises(InvalidPosition):
            face_distances(FLAT_PAIR, 0)


if __name__ == "__main__":
    unittest.main()
