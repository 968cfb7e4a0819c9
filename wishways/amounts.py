"""Ratios added up and compared, unchecked: what plans, sharings and their papers have in common."""

from wishways.ratios import reduced


def added(near, far):
    return reduced(near[0] * far[1] + far[0] * near[1], near[1] * far[1])


def lessened(near, far):
    """The one less the other."""
    return reduced(near[0] * far[1] - far[0] * near[1], near[1] * far[1])


def multiplied(near, far):
    return reduced(near[0] * far[0], near[1] * far[1])


def summed(ratios):
    total = (0, 1)
    for ratio in ratios:
        total = added(total, ratio)
    return total


def is_at_most(near, far):
    return near[0] * far[1] <= far[0] * near[1]


def is_above_none(ratio):
    """Whether the ratio is above 0."""
    return ratio[0] > 0


def taken_up_to(rows, most):
    """Of tuples (what, ratio) the first ones, as many as come to the ratio most, the last one perhaps lessened."""
    taken = []
    left = most
    for what, ratio in rows:
        if not is_above_none(left):
            break
        part = ratio if is_at_most(ratio, left) else left
        taken.append((what, part))
        left = lessened(left, part)
    return taken
