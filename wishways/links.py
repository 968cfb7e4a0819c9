"""What is joined by links: tuples that begin with two unlike places."""


def far_end(link, place):
    """The other place of a link that has this place, None of another link."""
    if link[0] == place:
        return link[1]
    return link[0] if link[1] == place else None


def ends_at(links, place):
    """The rising list of the places that links join to the place."""
    ends = [far_end(link, place) for link in links]
    return sorted([end for end in ends if end is not None])


def come_to(start, links):
    """The rising list of the places that can be come to from start, which is one of them."""
    found = {start: True}
    ahead = [start]
    while ahead:
        place = ahead.pop()
        for link in links:
            far = far_end(link, place)
            if far is not None and far not in found:
                found[far] = True
                ahead.append(far)
    return sorted(found)


def are_joined(places, links):
    """Whether each of the unlike places, one at least, can be come to from each other one between them alone."""
    inner = [link for link in links if link[0] in places and link[1] in places]
    return len(come_to(places[0], inner)) == len(places)
