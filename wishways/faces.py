"""Faces of flat webs, and the steps along them."""

from wishways.errors import InvalidPlace
from wishways.facesides import face_positions
from wishways.flats import check_flat
from wishways.links import ends_at
from wishways.steprings import faces_by
from wishways.webs import check_place


def faces_of(flat):
    """The sorted list of its faces."""
    check_flat(flat)
    return faces_by(flat[2])


def face_left(flat, one, other):
    """The position, among the faces, of that on which the step from one to other, its neighbour, stands."""
    check_flat(flat)
    check_place(flat[1], one)
    check_place(flat[1], other)
    if other not in ends_at(flat[1][2], one):
        raise InvalidPlace(other)
    return face_positions(flat)[(one, other)]


def inner_faces(flat):
    """The rising list of the positions of all faces but the rim."""
    return [at for at, face in enumerate(faces_of(flat)) if face != flat[3]]
