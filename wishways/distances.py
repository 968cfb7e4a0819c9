"""Distances by lengths, shortest ways, and lengths that are distances."""

from wishways.basics import is_listed, is_within
from wishways.lengths import check_lengths
from wishways.measuring import distance_rows, least_shortest_way
from wishways.webs import check_two, check_web

MOST_DISTANCE = 100000000000000


def distances(web, lengths):
    """The list of lists of the distances of all two places."""
    check_web(web)
    check_lengths(web, lengths)
    return distance_rows(web, lengths)


def shortest_way(web, lengths, one, other):
    """The first one, as tuples are sorted, of the shortest ways from one to other."""
    check_web(web)
    check_lengths(web, lengths)
    check_two(web, one, other)
    return least_shortest_way(web, lengths, one, other)


def lowered(web, lengths):
    """Lengths with the distance of its two places for each tie."""
    rows = distances(web, lengths)
    return tuple([rows[tie[0]][tie[1]] for tie in web[2]])


def is_tight(web, lengths):
    """Whether each tie's length is the distance of its two places."""
    return lowered(web, lengths) == tuple(lengths)


def is_distance_row(value, many):
    """Whether any value is a list of so many COUNTS that a distance table may have."""
    if not is_listed(value) or len(value) != many:
        return False
    return all([is_within(number, 0, MOST_DISTANCE) for number in value])


def are_distances(rows):
    """Whether square rows of COUNTS are 0 from each place to itself, alike both ways, and never above a way round."""
    places = list(range(len(rows)))
    if any([rows[one][one] != 0 or rows[one][other] != rows[other][one] for one in places for other in places]):
        return False
    return all([rows[one][other] <= rows[one][by] + rows[by][other]
                for one in places for other in places for by in places])


def is_distance_table(value):
    if not is_listed(value) or not 2 <= len(value) <= 8:
        return False
    return all([is_distance_row(row, len(value)) for row in value]) and are_distances(value)
