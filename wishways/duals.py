"""Flat webs turned: faces for places; circuits of ties, which are joined cuts; ways between faces."""

from wishways.basics import is_within
from wishways.cuts import crossing_ties
from wishways.errors import InvalidCircuit, InvalidCut, InvalidPosition
from wishways.facesides import parted_without, paths_from, rim_position, sides_of_ties
from wishways.flats import check_flat
from wishways.leastcuts import firm_cuts, has_joined_sides, is_firm
from wishways.partings import is_cut
from wishways.steprings import steps_along


def turned_web(flat):
    """The tuple ("turned", how many faces, ties between faces)."""
    check_flat(flat)
    sides = sides_of_ties(flat)
    return ("turned", faces_in_all(flat), tuple(sides))


def faces_in_all(flat):
    """How many faces there are."""
    return 2 - flat[1][1] + len(flat[1][2])


def is_joined_cut(web, cut):
    """Whether the places of a cut hang together by ties between them, and so do all others."""
    return is_firm(web, cut)


def joined_cuts(web):
    """The sorted list of the joined cuts."""
    return firm_cuts(web)


def circuit_along(sides, ties):
    """The circuit of a rising list of ties that are one in some sequence."""
    if len(ties) < 3:
        return tuple(ties)
    found, left = ties[:1], ties[1:]
    face = sides[ties[0]][1]
    while left:
        tie = [at for at in left if face in sides[at][:2]][0]
        face = sides[tie][0] + sides[tie][1] - face
        found.append(tie)
        left = [at for at in left if at != tie]
    return tuple(found if found[1] < found[-1] else found[:1] + found[:0:-1])


def circuit_of_cut(flat, cut):
    """The circuit of the ties that cross a joined cut."""
    check_flat(flat)
    if not is_cut(flat[1], cut) or not has_joined_sides(flat[1], cut):
        raise InvalidCut(cut)
    return circuit_along(sides_of_ties(flat), crossing_ties(flat[1], cut))


def common_faces(side, second):
    """The list of the faces that two ties both have, each once."""
    return [face for face in sorted(set(side[:2])) if face in second[:2]]


def do_close(sides, ties):
    """Whether three or more unlike ties lead from face to face, and come into none of them twice."""
    common = [common_faces(sides[one], sides[other]) for one, other in steps_along(ties)]
    if any([len(faces) != 1 for faces in common]):
        return False
    # Where all of them are unlike, those which a tie has in common with its neighbours are its two faces.
    return len(set([faces[0] for faces in common])) == len(ties)


def is_round_way(sides, ties):
    """Whether unlike ties, from the least one on, are a circuit."""
    if len(ties) == 1:
        return sides[ties[0]][0] == sides[ties[0]][1]
    if len(ties) == 2:
        near, far = sides[ties[0]][:2], sides[ties[1]][:2]
        return near[0] != near[1] and sorted(near) == sorted(far)
    return ties[1] < ties[-1] and do_close(sides, ties)


def is_circuit(flat, value):
    """Whether any value is a circuit of the flat web."""
    check_flat(flat)
    most = len(flat[1][2]) - 1
    if not isinstance(value, tuple) or len(value) == 0 or not all([is_within(tie, 0, most) for tie in value]):
        return False
    if len(set(value)) < len(value) or value[0] != min(value):
        return False
    return is_round_way(sides_of_ties(flat), value)


def cut_of_circuit(flat, circuit):
    """The joined cut that the circuit's ties cross."""
    if not is_circuit(flat, circuit):
        raise InvalidCircuit(circuit)
    return parted_without(flat[1], circuit)


def circuits(flat):
    """The sorted list of all circuits."""
    check_flat(flat)
    sides = sides_of_ties(flat)
    return sorted([circuit_along(sides, crossing_ties(flat[1], cut)) for cut in firm_cuts(flat[1])])


def check_inner(flat, position):
    """The position of a face of a flat web, other than the rim."""
    if not is_within(position, 0, faces_in_all(flat) - 1) or position == rim_position(flat):
        raise InvalidPosition(position)


def face_distances(flat, position):
    """The list, for each face, of how far it is from this one; None for the rim, and where one can't come."""
    check_flat(flat)
    check_inner(flat, position)
    paths = paths_from(sides_of_ties(flat), rim_position(flat), position)
    return [paths[face][0] if face in paths else None for face in range(faces_in_all(flat))]


def face_path(flat, position, other):
    """The tuple of the positions of the ties of the first path of the least rooms, None if there is none."""
    check_flat(flat)
    check_inner(flat, position)
    check_inner(flat, other)
    paths = paths_from(sides_of_ties(flat), rim_position(flat), position)
    return paths[other][1] if other in paths else None
