"""Steps along ties, and the rings of steps into which rounds let them fall, unchecked."""


def steps_along(ring):
    """The list of the steps of a ring that is told by the places at which they begin."""
    return list(zip(ring, ring[1:] + ring[:1]))


def least_turning(ring):
    """The ring from that place on from which it is least."""
    return min([ring[at:] + ring[:at] for at in range(len(ring))])


def step_behind(rounds, step):
    """The step behind a step: to the neighbour that stands behind the place it comes from."""
    one, other = step
    circle = rounds[other]
    return (other, circle[(circle.index(one) + 1) % len(circle)])


def ring_from(rounds, first):
    """The tuple of the places at which the steps of a step's ring begin, from this one on."""
    places = [first[0]]
    step = step_behind(rounds, first)
    while step != first:
        places.append(step[0])
        step = step_behind(rounds, step)
    return tuple(places)


def faces_by(rounds):
    """The sorted list of all faces, each from the turning on that is the least."""
    seen = {}
    faces = []
    for one, circle in enumerate(rounds):
        for other in circle:
            if (one, other) not in seen:
                ring = ring_from(rounds, (one, other))
                for step in steps_along(ring):
                    seen[step] = True
                faces.append(least_turning(ring))
    return sorted(faces)
