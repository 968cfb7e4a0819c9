"""Plans of the least cost, and tolls that show that none costs less."""

from wishways.amounts import added, multiplied, summed
from wishways.basics import is_headed, is_tuple_of, is_within
from wishways.errors import InvalidPrices, InvalidTolls
from wishways.exchanges import Board, add_position, climb, has_start, price_numbers, set_worths, value_at
from wishways.lengths import are_lengths, bars
from wishways.measuring import distance_rows, least_shortest_way
from wishways.papers import does_serve_well
from wishways.plans import check_plan
from wishways.ratios import is_ratio, reduced
from wishways.rows import whole_row
from wishways.served import barring_lengths, kept_to_share, numbers_of_way, serving_plan
from wishways.ways import positions_along
from wishways.webs import check_place, check_traffic, check_web

MOST_PRICE = 1000


def check_prices(web, prices):
    """Prices of a web that is one."""
    if not is_tuple_of(prices, len(web[2])) or not all([is_within(price, 0, MOST_PRICE) for price in prices]):
        raise InvalidPrices(prices)


def are_tolls(web, value):
    """Whether any value is tolls of a web that is one."""
    return is_tuple_of(value, len(web[2])) and all([is_ratio(toll) and toll[0] >= 0 for toll in value])


def check_tolls(web, tolls):
    if not are_tolls(web, tolls):
        raise InvalidTolls(tolls)


def price_along(web, prices, way):
    return sum([prices[at] for at in positions_along(web, way)])


def cost_of(web, plan, prices):
    return summed([multiplied(ratio, (price_along(web, prices, way), 1)) for way, ratio in plan])


def plan_cost(web, wishes, plan, prices):
    """The sum, over the plan's ways, of ratio times prices."""
    check_plan(web, wishes, plan)
    check_prices(web, prices)
    return cost_of(web, plan, prices)


def charge_rows(web, prices, tolls):
    """The tuple (rows, under): the charges of all two places, times the under that makes them whole."""
    numbers, under = whole_row(tolls)
    return (distance_rows(web, [price * under + number for price, number in zip(prices, numbers)]), under)


def pair_charge(web, one, other, prices, tolls):
    """The charge of a way with the least one between two places, 0 of one place."""
    check_web(web)
    check_place(web, one)
    check_place(web, other)
    check_prices(web, prices)
    check_tolls(web, tolls)
    rows, under = charge_rows(web, prices, tolls)
    return reduced(rows[one][other], under)


def worth_by(web, wishes, prices, tolls):
    rows, under = charge_rows(web, prices, tolls)
    paid = summed([multiplied(toll, (-tie[2], 1)) for toll, tie in zip(tolls, web[2])])
    return added(reduced(sum([wish * rows[one][other] for one, other, wish in wishes]), under), paid)


def tolls_worth(web, wishes, prices, tolls):
    """The sum of wish times charge, less that of toll times room."""
    check_traffic(web, wishes)
    check_prices(web, prices)
    check_tolls(web, tolls)
    return worth_by(web, wishes, prices, tolls)


def pairs_led(wishes, plan):
    """The list of tuples (way, position of its wish) of a plan's ways."""
    pairs = [wish[:2] for wish in wishes]
    return [(way, pairs.index((way[0], way[-1]))) for way, _ in plan]


def cheaper_ways(web, wishes, prices, board):
    """The list of tuples (way, position of its wish) of ways with less charge than what their wish is paid."""
    numbers = price_numbers(board)
    asked = numbers[len(web[2]):]
    lengths = [price * board.under + number for price, number in zip(prices, numbers)]
    ways = [(least_shortest_way(web, lengths, wish[0], wish[1]), at) for at, wish in enumerate(wishes)]
    return [(way, at) for way, at in ways if price_along(web, lengths, way) < asked[at]]


def cheapest_from(web, wishes, prices, plan):
    """The tuple (plan, tolls) of a cheapest plan, found from a plan that fits and serves on.

    As in the table of [163], but ways are looked at only when they have less charge than is paid.
    """
    led = pairs_led(wishes, plan)
    columns = [numbers_of_way(web, wishes, way, at) for way, at in led]
    rows = [[column[row] for column in columns] for row in range(len(columns[0]))]
    board = Board(rows, [tie[2] for tie in web[2]] + [-wish[2] for wish in wishes])
    has_start(board)
    more = led
    while more:
        set_worths(board, {board.many + at: -price_along(web, prices, way) for at, (way, _) in enumerate(led)})
        climb(board)
        more = cheaper_ways(web, wishes, prices, board)
        for way, at in more:
            add_position(board, numbers_of_way(web, wishes, way, at))
        led = led + more
    parts = [(way, value_at(board, board.many + at)) for at, (way, _) in enumerate(led)]
    tolls = [reduced(number, board.under) for number in price_numbers(board)[:len(web[2])]]
    return (kept_to_share(wishes, parts, (1, 1)), tuple(tolls))


def cheapest(web, wishes, prices):
    """A cheapest paper: ("cheapest", plan, tolls), or ("lengths", lengths) that bar the wishes."""
    check_traffic(web, wishes)
    check_prices(web, prices)
    plan = serving_plan(web, wishes)
    if plan is None:
        return ("lengths", barring_lengths(web, wishes))
    return ("cheapest",) + cheapest_from(web, wishes, prices, plan)


def is_shown_cheapest(web, wishes, prices, plan, tolls):
    """Whether any values are a plan that fits and serves, and tolls of just the worth that it costs."""
    if not does_serve_well(web, wishes, plan) or not are_tolls(web, tolls):
        return False
    return cost_of(web, plan, prices) == worth_by(web, wishes, prices, tolls)


def is_cheapest(web, wishes, prices, value):
    """Whether any value is a cheapest paper."""
    check_traffic(web, wishes)
    check_prices(web, prices)
    if is_headed(value, "cheapest", 3):
        return is_shown_cheapest(web, wishes, prices, value[1], value[2])
    return is_headed(value, "lengths", 2) and are_lengths(web, value[1]) and bars(web, wishes, value[1])
