"""Cuts that part one marked place from all others, unchecked: for whatever ties with rooms between so many places."""

from wishways.partings import cuts_of_many, side_with, sum_across


def is_own(many, marks, place, cut):
    """Whether the cut has on one side the place as the only marked one."""
    return [mark for mark in side_with(many, cut, place) if mark in marks] == [place]


def own_cuts(many, marks, place):
    """The sorted list of the place's own cuts."""
    return [cut for cut in cuts_of_many(many) if is_own(many, marks, place, cut)]


def least_own(many, ties, marks, place):
    """The tuple (room, cut) of the place's first own cut of the least room."""
    return min([(sum_across(ties, cut), cut) for cut in own_cuts(many, marks, place)])


def own_rooms(many, ties, marks):
    """The list of the marked places' own rooms."""
    return [least_own(many, ties, marks, place)[0] for place in marks]
