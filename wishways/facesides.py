"""The faces on both sides of ties, and what leads from face to face, unchecked."""

from heapq import heappop, heappush

from wishways.links import come_to
from wishways.partings import places_beyond
from wishways.steprings import faces_by, steps_along


def face_positions(flat):
    """The dict of the positions, by steps, of the faces on which they stand."""
    return {step: at for at, face in enumerate(faces_by(flat[2])) for step in steps_along(face)}


def rim_position(flat):
    return faces_by(flat[2]).index(flat[3])


def sides_of_ties(flat):
    """The list, by ties, of tuples (face of the step to its greater place, face of that back, room)."""
    stands = face_positions(flat)
    return [(stands[(one, other)], stands[(other, one)], room) for one, other, room in flat[1][2]]


def beyond(side, face):
    """The face on the other side of a tie that has this face, None of another tie."""
    if side[0] == face:
        return side[1]
    return side[0] if side[1] == face else None


def paths_from(sides, barred, face):
    """The dict of the faces that can be come to without the barred one, each with the tuple (rooms, path) of the first
    path of the least rooms."""
    # Rooms are above 0: no path begins another one of the same rooms, so the first one that ends at a face is its own.
    ahead = [(0, (), face)]
    done = {}
    while ahead:
        rooms, path, at = heappop(ahead)
        if at in done:
            continue
        done[at] = (rooms, path)
        for position, side in enumerate(sides):
            far = beyond(side, at)
            if far is not None and far != barred and far not in done:
                heappush(ahead, (rooms + side[2], path + (position,), far))
    return done


def parted_without(web, positions):
    """The cut of the places that can't be come to from the place 0 without the ties at these positions."""
    near = come_to(0, [tie for at, tie in enumerate(web[2]) if at not in positions])
    return tuple(places_beyond(web[1], near))
