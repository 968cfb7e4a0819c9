"""Cuts over two steps of the rim, and which of them are over-asked."""

from wishways.facesides import parted_without
from wishways.partings import sum_across
from wishways.rims import check_rim_traffic, check_steps, meeting, meeting_of, paths_behind, places_between
from wishways.rims import steps_at_rim


def rim_room(flat, step, later):
    """The rim room of two steps, None if they don't meet."""
    met = meeting_of(flat, step, later)
    return None if met is None else met[0]


def rim_cut(flat, step, later):
    """The rim cut of two steps, None if they don't meet."""
    met = meeting_of(flat, step, later)
    return None if met is None else parted_without(flat[1], met[1])


def rim_wish(flat, wishes, step, later):
    """The sum of the wishes with just one place between the two steps."""
    check_rim_traffic(flat, wishes)
    check_steps(flat, step, later)
    return sum_across(wishes, places_between(flat, step, later))


def rim_rows(flat, wishes):
    """The sorted list of tuples (step, later, rim room, rim wish) for all two steps that meet."""
    check_rim_traffic(flat, wishes)
    steps = steps_at_rim(flat)
    rows = []
    for step, near in enumerate(steps):
        paths = paths_behind(flat, near[1])
        for later in range(step + 1, len(steps)):
            met = meeting(flat, paths, near, steps[later])
            if met is not None:
                rows.append((step, later, met[0], sum_across(wishes, places_between(flat, step, later))))
    return rows


def rim_over_asked(flat, wishes):
    """The sorted list of the tuples (step, later) whose rim wish is above their rim room."""
    return [(step, later) for step, later, room, wish in rim_rows(flat, wishes) if wish > room]
