"""Distances by lengths, and shortest ways, unchecked."""

from heapq import heappop, heappush

from wishways.links import far_end


def first_distances(web, lengths):
    """The rows of what the ties alone tell; where none is, more than any way is long."""
    beyond = sum(lengths) + 1
    rows = [[0 if one == other else beyond for other in range(web[1])] for one in range(web[1])]
    for (one, other, _), length in zip(web[2], lengths):
        rows[one][other] = rows[other][one] = length
    return rows


def distance_rows(web, lengths):
    """The list of lists of the distances."""
    rows = first_distances(web, lengths)
    for by in range(web[1]):
        rows = [[min(row[other], row[by] + rows[by][other]) for other in range(web[1])] for row in rows]
    return rows


def least_shortest_way(web, lengths, one, other):
    """The first one, as tuples are sorted, of the shortest ways from one to other."""
    # A way comes ahead of each longer one that it begins, so the first one that ends at a place is the place's own.
    ahead = [(0, (one,))]
    done = {}
    while other not in done:
        length, way = heappop(ahead)
        place = way[-1]
        if place in done:
            continue
        done[place] = way
        for tie, more in zip(web[2], lengths):
            far = far_end(tie, place)
            if far is not None and far not in done:
                heappush(ahead, (length + more, way + (far,)))
    return done[other]
