"""Wishes all at once: their share, and a plan that serves them or lengths that bar them."""

from wishways.amounts import is_above_none, is_at_most, multiplied, taken_up_to
from wishways.exchanges import Board, add_position, climb, price_numbers, set_worths, value_at
from wishways.measuring import least_shortest_way
from wishways.plans import parts_of_pair
from wishways.ratios import reduced
from wishways.rows import row_reduced
from wishways.ways import positions_along
from wishways.webs import check_traffic


def board_of_share(web, wishes):
    """The table of [73] without any way as yet: rows for ties and wishes, the share as the first position."""
    rows = [[0] for _ in web[2]] + [[wish[2]] for wish in wishes]
    board = Board(rows, [tie[2] for tie in web[2]] + [0 for _ in wishes])
    set_worths(board, {board.many: 1})
    return board


def cheaper_ways(web, wishes, board):
    """The list of tuples (way, position of its wish) of shortest ways that cost less than their pair's price."""
    prices = price_numbers(board)
    lengths, asked = prices[:len(web[2])], prices[len(web[2]):]
    ways = [(least_shortest_way(web, lengths, wish[0], wish[1]), at) for at, wish in enumerate(wishes)]
    return [(way, at) for way, at in ways if sum([lengths[tie] for tie in positions_along(web, way)]) < asked[at]]


def numbers_of_way(web, wishes, way, at):
    ties = positions_along(web, way)
    laid = [1 if tie in ties else 0 for tie in range(len(web[2]))]
    return laid + [-1 if wish == at else 0 for wish in range(len(wishes))]


def share_told(web, wishes):
    """The tuple (share, plan, lengths) of a web with wishes: a plan and lengths that reach the share."""
    board = board_of_share(web, wishes)
    ways = []
    climb(board)
    more = cheaper_ways(web, wishes, board)
    while more:
        for way, at in more:
            add_position(board, numbers_of_way(web, wishes, way, at))
            ways.append(way)
        climb(board)
        more = cheaper_ways(web, wishes, board)
    ratio = value_at(board, board.many)
    led = [(way, value_at(board, board.many + 1 + at)) for at, way in enumerate(ways)]
    lengths = row_reduced(tuple(price_numbers(board)[:len(web[2])]))
    return (ratio, kept_to_share(wishes, led, ratio), lengths)


def kept_to_share(wishes, led, ratio):
    """The plan of led ways, of which each pair keeps just the ratio times its wish."""
    kept = []
    for wish in wishes:
        parts = [part for part in parts_of_pair(led, wish) if is_above_none(part[1])]
        kept.extend(taken_up_to(parts, multiplied(ratio, (wish[2], 1))))
    return tuple(sorted(kept))


def share(web, wishes):
    """The greatest ratio of all wishes that can be given to all pairs at once."""
    check_traffic(web, wishes)
    return share_told(web, wishes)[0]


def share_plan(web, wishes):
    """A plan that fits and gives each pair the share times its wish."""
    check_traffic(web, wishes)
    return share_told(web, wishes)[1]


def share_lengths(web, wishes):
    """Lengths by which the sum of room times length is the share times that of wish times distance."""
    check_traffic(web, wishes)
    return share_told(web, wishes)[2]


def serving_plan(web, wishes):
    """A plan that fits and serves the wishes, None if there is none."""
    check_traffic(web, wishes)
    ratio, plan, _ = share_told(web, wishes)
    if not is_at_most((1, 1), ratio):
        return None
    part = reduced(ratio[1], ratio[0])
    return tuple([(way, multiplied(much, part)) for way, much in plan])


def barring_lengths(web, wishes):
    """Lengths that bar the wishes, None if there are none."""
    check_traffic(web, wishes)
    ratio, _, lengths = share_told(web, wishes)
    return None if is_at_most((1, 1), ratio) else lengths
