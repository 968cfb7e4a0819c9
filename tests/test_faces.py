"""Faces, and the steps along them: [121]."""

import unittest

from samples import FLAT_BOW, FLAT_FOUR, FLAT_KITE, FLAT_PAIR, NOT_FLATS, NOT_PLACES, TOUCHY, plain_faces, some_flats
from wishways.errors import InvalidFlat, InvalidPlace
from wishways.faces import face_left, faces_of, inner_faces

FLATS = some_flats(140, seed=511) + [FLAT_KITE, FLAT_PAIR, FLAT_BOW, FLAT_FOUR]


class Faces(unittest.TestCase):
    def test_121_against_plain_rings(self):
        for flat in FLATS:
            faces = faces_of(flat)
            self.assertEqual(faces, plain_faces(flat[2]))
            self.assertEqual(sum([len(face) for face in faces]), 2 * len(flat[1][2]))
            self.assertEqual(flat[1][1] - len(flat[1][2]) + len(faces), 2)
            self.assertEqual(inner_faces(flat), [at for at in range(len(faces)) if faces[at] != flat[3]])
            self.assertEqual(len(inner_faces(flat)), len(faces) - 1)

    def test_121_each_step_on_one_face(self):
        for flat in FLATS:
            faces = faces_of(flat)
            for one, other, _ in flat[1][2]:
                for step in ((one, other), (other, one)):
                    on = [at for at, face in enumerate(faces) if step in list(zip(face, face[1:] + face[:1]))]
                    self.assertEqual(on, [face_left(flat, *step)])

    def test_121_by_hand(self):
        self.assertEqual([faces_of(FLAT_PAIR), inner_faces(FLAT_PAIR), face_left(FLAT_PAIR, 0, 1), face_left(FLAT_PAIR, 1, 0)], [[(0, 1)], [], 0, 0])
        self.assertEqual([faces_of(FLAT_BOW), inner_faces(FLAT_BOW)], [[(0, 1, 3, 4, 5, 4, 1, 2), (0, 2, 1), (1, 4, 3)], [1, 2]])
        self.assertEqual([face_left(FLAT_BOW, 1, 4), face_left(FLAT_BOW, 4, 1), face_left(FLAT_BOW, 5, 4), face_left(FLAT_BOW, 0, 2)], [2, 0, 0, 1])
        self.assertEqual([faces_of(FLAT_FOUR), inner_faces(FLAT_FOUR)], [[(0, 1, 3), (0, 2, 1), (0, 3, 2), (1, 2, 3)], [0, 2, 3]])

    def test_121_wrong(self):
        for value in NOT_FLATS:
            for function in (faces_of, inner_faces, lambda flat: face_left(flat, TOUCHY, TOUCHY)):
                with self.assertRaises(InvalidFlat) as caught:
                    function(value)
                self.assertIs(caught.exception.value, value)
        for value in NOT_PLACES + [4]:
            for one, other in ((value, None), (value, 0), (0, value)):
                with self.assertRaises(InvalidPlace) as caught:
                    face_left(FLAT_KITE, one, other)
                self.assertIs(caught.exception.value, value)

    def test_121_no_neighbour(self):
        for flat in FLATS[:40]:
            tied = [pair for tie in flat[1][2] for pair in (tie[:2], tie[1::-1])]
            for one in range(flat[1][1]):
                for other in range(flat[1][1]):
                    if (one, other) not in tied:
                        with self.assertRaises(InvalidPlace) as caught:
                            face_left(flat, one, other)
                        self.assertEqual(caught.exception.value, other)


if __name__ == "__main__":
    unittest.main()
