"""Flat webs with all wishes at the rim: its steps, and which of them meet."""

from wishways.basics import is_within
from wishways.errors import InvalidStep, InvalidWishes
from wishways.facesides import face_positions, paths_from, rim_position, sides_of_ties
from wishways.flats import check_flat, is_flat
from wishways.steprings import steps_along
from wishways.ways import signed_steps
from wishways.webs import are_wishes


def are_rim_wishes(flat, value):
    """Whether any value is wishes of a flat web all of whose places stand on its rim."""
    return are_wishes(flat[1], value) and all([one in flat[3] and other in flat[3] for one, other, _ in value])


def is_rim_traffic(value, other):
    """Whether any values are a flat web and wishes of rim traffic."""
    return is_flat(value) and are_rim_wishes(value, other)


def check_rim_traffic(flat, wishes):
    check_flat(flat)
    if not are_rim_wishes(flat, wishes):
        raise InvalidWishes(wishes)


def check_steps(flat, step, later):
    """Two steps of the rim of a flat web, the later one above the other."""
    if not is_within(step, 0, len(flat[3]) - 1):
        raise InvalidStep(step)
    if not is_within(later, step + 1, len(flat[3]) - 1):
        raise InvalidStep(later)


def steps_at_rim(flat):
    """The list of tuples (position of the step's tie, face on which its back stands; None if this is the rim)."""
    stands, rim = face_positions(flat), rim_position(flat)
    rows = []
    for one, other in steps_along(flat[3]):
        back = stands[(other, one)]
        rows.append((signed_steps(flat[1], (one, other))[0][0], None if back == rim else back))
    return rows


def rim_steps(flat):
    """The list of the rim's steps, each told by its tie and by the face on which its back stands."""
    check_flat(flat)
    return steps_at_rim(flat)


def places_between(flat, step, later):
    """The rising list of the places between two steps of the rim, each once."""
    return sorted(set(flat[3][step + 1:later + 1]))


def between(flat, step, later):
    """The rising list of the places between both steps, each once."""
    check_flat(flat)
    check_steps(flat, step, later)
    return places_between(flat, step, later)


def paths_behind(flat, back):
    """The dict of the paths from the face on which a step's back stands, not through the rim."""
    return {} if back is None else paths_from(sides_of_ties(flat), rim_position(flat), back)


def meeting(flat, paths, near, far):
    """The tuple (rim room, positions of ties) of two steps told by tie and back, None if they don't meet.

    The paths are those behind the nearer one.
    """
    if near[0] == far[0]:
        return (flat[1][2][near[0]][2], (near[0],))
    if far[1] not in paths:
        return None
    rooms, path = paths[far[1]]
    return (rooms + flat[1][2][near[0]][2] + flat[1][2][far[0]][2], (near[0],) + path + (far[0],))


def meeting_of(flat, step, later):
    """The tuple (rim room, positions of ties) of two steps that meet, None of others."""
    check_flat(flat)
    check_steps(flat, step, later)
    steps = steps_at_rim(flat)
    return meeting(flat, paths_behind(flat, steps[step][1]), steps[step], steps[later])


def do_meet(flat, step, later):
    """Whether the two steps meet."""
    return meeting_of(flat, step, later) is not None
