"""Trees of a web, and cut trees, by which all least cuts are told."""

from wishways.basics import is_integer, is_rising, is_tuple_of
from wishways.errors import InvalidTree
from wishways.leastcuts import least_cut, least_room
from wishways.links import are_joined, come_to
from wishways.partings import cut_with_side, is_across, side_with, sum_across
from wishways.webs import check_two, check_web, is_pair


def is_branch(web, value):
    """Whether any value is a tuple that may stand in a tree."""
    return is_tuple_of(value, 3) and is_pair(value, web[1]) and is_integer(value[2]) and value[2] >= 1


def is_tree(web, value):
    """Whether any value is a tree of the web."""
    check_web(web)
    if not is_tuple_of(value, web[1] - 1) or not all([is_branch(web, branch) for branch in value]):
        return False
    return is_rising(value) and are_joined(list(range(web[1])), value)


def parting(web, tree, at):
    """The cut of the parting of the tree's tuple at a position."""
    others = tree[:at] + tree[at + 1:]
    return cut_with_side(web[1], come_to(tree[at][0], others))


def is_told(web, tree, at):
    """Whether the parting's room is what the tuple at a position tells, and least for its two places."""
    one, other, much = tree[at]
    return sum_across(web[2], parting(web, tree, at)) == much and least_room(web, one, other) == much


def is_cut_tree(web, value):
    """Whether any value is a cut tree of the web."""
    return is_tree(web, value) and all([is_told(web, value, at) for at in range(len(value))])


def cut_tree(web):
    """A cut tree, in Gusfield's way: place by place, without any web being shrunk."""
    check_web(web)
    above = [0 for _ in range(web[1])]
    much = [0 for _ in range(web[1])]
    for place in range(1, web[1]):
        hang(web, above, much, place)
    return tuple(sorted([(min(place, above[place]), max(place, above[place]), much[place])
                         for place in range(1, web[1])]))


def hang(web, above, much, place):
    """Hang a place, and what is on its side of a least cut, below what it hung from; above and much are changed."""
    top = above[place]
    side = side_with(web[1], least_cut(web, place, top), place)
    room = least_room(web, place, top)
    for low in side:
        if low != place and above[low] == top:
            above[low] = place
    if above[top] in side:
        # The side has what the top hung from: the place comes between both.
        above[place], much[place] = above[top], much[top]
        above[top], much[top] = place, room
    else:
        much[place] = room


def between(web, tree, one, other):
    """The list, as they stand in the tree, of tuples (much, parting) of those between the two places."""
    if not is_cut_tree(web, tree):
        raise InvalidTree(tree)
    check_two(web, one, other)
    rows = [(tree[at][2], parting(web, tree, at)) for at in range(len(tree))]
    return [row for row in rows if is_across(row[1], (one, other))]


def least_by_tree(web, tree, one, other):
    """The least much along the tree between the two places."""
    return min([much for much, _ in between(web, tree, one, other)])


def cut_by_tree(web, tree, one, other):
    """The cut of the parting of the first tuple between the two places that has the least much."""
    return min(between(web, tree, one, other), key=lambda row: row[0])[1]
