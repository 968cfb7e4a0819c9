"""Webs drawn flat: by the rounds of their places, or by points."""

from wishways.basics import are_integers, is_headed, is_tuple_of, is_within
from wishways.errors import InvalidFlat, InvalidPoints
from wishways.links import ends_at
from wishways.steprings import faces_by, least_turning, steps_along
from wishways.webs import check_web, is_web

MOST_FAR = 10000


def is_circle(value, ends):
    """Whether any value is a tuple of just the places of a rising list, from the least on."""
    return is_tuple_of(value, len(ends)) and are_integers(value) and sorted(value) == ends and value[0] == ends[0]


def are_rounds(web, value):
    """Whether any value is rounds of a web that is one."""
    if not is_tuple_of(value, web[1]):
        return False
    return all([is_circle(circle, ends_at(web[2], place)) for place, circle in enumerate(value)])


def is_flat(value):
    if not is_headed(value, "flat", 4) or not is_web(value[1]) or not are_rounds(value[1], value[2]):
        return False
    _, web, rounds, rim = value
    faces = faces_by(rounds)
    if web[1] - len(web[2]) + len(faces) != 2:
        return False
    return isinstance(rim, tuple) and are_integers(rim) and rim in faces


def check_flat(flat):
    if not is_flat(flat):
        raise InvalidFlat(flat)


def is_point(value):
    """Whether any value is a tuple of two INTEGERS that may tell where a place is."""
    return is_tuple_of(value, 2) and all([is_within(number, -MOST_FAR, MOST_FAR) for number in value])


def turned_left(start, near, far):
    """Above 0 if far stands to the left of the line from start to near, below 0 if to the right, 0 if on it."""
    return (near[0] - start[0]) * (far[1] - start[1]) - (near[1] - start[1]) * (far[0] - start[0])


def is_between(point, one, other):
    """Whether a point, unlike both others, lies straight between them."""
    if turned_left(one, other, point) != 0:
        return False
    return (one[0] - point[0]) * (other[0] - point[0]) + (one[1] - point[1]) * (other[1] - point[1]) < 0


def are_parted(line, one, other):
    """Whether two points stand on unlike sides of the line through two others, neither on it."""
    near, far = turned_left(line[0], line[1], one), turned_left(line[0], line[1], other)
    return min(near, far) < 0 < max(near, far)


def do_lines_cross(line, second):
    """Whether two lines meet, no end of the one of which lies on the other one, but it be an end of both."""
    return are_parted(line, second[0], second[1]) and are_parted(second, line[0], line[1])


def do_draw(web, points):
    """Whether points, one for each place, draw the web."""
    if len(set(points)) < len(points):
        return False
    for tie in web[2]:
        line = (points[tie[0]], points[tie[1]])
        if any([is_between(point, line[0], line[1]) for point in points if point not in line]):
            return False
        if any([do_lines_cross(line, (points[one], points[other])) for one, other, _ in web[2]]):
            return False
    return True


def half(point, first, end):
    """0 of an end less than half the way round, clockwise from the first one on, 1 of others."""
    return 0 if end == first or turned_left(point, first, end) < 0 else 1


def is_ahead(point, first, end, other):
    """Whether an end comes ahead of another one, clockwise around the point, from the first one on."""
    near, far = half(point, first, end), half(point, first, other)
    return near < far if near != far else turned_left(point, end, other) < 0


def clockwise(points, place, ends):
    """The tuple of the ends in their sequence around the place, from the least on."""
    ranks = [len([other for other in ends if is_ahead(points[place], points[ends[0]], points[other], points[end])])
             for end in ends]
    return tuple([end for _, end in sorted(zip(ranks, ends))])


def doubled_area(points, face):
    """Twice the area that a face goes round, against the clock."""
    return sum([points[one][0] * points[other][1] - points[other][0] * points[one][1]
                for one, other in steps_along(face)])


def flat_by_points(web, points):
    """The flat web that the points draw."""
    check_web(web)
    if not is_tuple_of(points, web[1]) or not all([is_point(point) for point in points]) or not do_draw(web, points):
        raise InvalidPoints(points)
    rounds = tuple([clockwise(points, place, ends_at(web[2], place)) for place in range(web[1])])
    # Only round the web outside a face goes with the clock, or there and back.
    outer = [face for face in faces_by(rounds) if doubled_area(points, face) <= 0]
    return ("flat", web, rounds, outer[0])


def mirrored(flat):
    """The flat web with all rounds the other way about."""
    check_flat(flat)
    _, web, rounds, rim = flat
    return ("flat", web, tuple([circle[:1] + circle[:0:-1] for circle in rounds]), least_turning(rim[::-1]))


def rim_places(flat):
    """The sorted list of the places on the rim."""
    check_flat(flat)
    return sorted(set(flat[3]))
