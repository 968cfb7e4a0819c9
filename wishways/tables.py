"""Tables of unequations: what they are, and what answers them."""

from wishways.basics import is_headed, is_tuple_of, is_within
from wishways.errors import InvalidPoint, InvalidTable
from wishways.ratios import is_ratio, reduced
from wishways.rows import summed_products, whole_row

MOST_ROWS = 30
MOST_NUMBER = 1000000


def are_numbers(value, many):
    """Whether any value is a tuple of so many INTEGERS that a table may have."""
    return is_tuple_of(value, many) and all([is_within(number, -MOST_NUMBER, MOST_NUMBER) for number in value])


def is_sized(value):
    """Whether any value is a tuple with as many members as a table may have rows or positions."""
    return isinstance(value, tuple) and 1 <= len(value) <= MOST_ROWS


def is_table(value):
    if not is_headed(value, "table", 4):
        return False
    rows, bounds, worths = value[1:]
    if not is_sized(rows) or not is_sized(worths):
        return False
    return are_numbers(bounds, len(rows)) and are_numbers(worths, len(worths)) and all(
        [are_numbers(row, len(worths)) for row in rows])


def check_table(table):
    if not is_table(table):
        raise InvalidTable(table)


def are_shares(value, many):
    """Whether any value is a tuple of so many RATIOS, none below 0."""
    return is_tuple_of(value, many) and all([is_ratio(ratio) and ratio[0] >= 0 for ratio in value])


def columns(table):
    """The list of the tuples of all rows' numbers at one position."""
    return [tuple([row[at] for row in table[1]]) for at in range(len(table[3]))]


def product_with(row, ratios):
    """The sum of a row's numbers times the ratios, as many, a RATIO."""
    numbers, under = whole_row(ratios)
    return reduced(summed_products(row, numbers), under)


def have_at_most(rows, ratios, bounds):
    """Whether of each row the sum of its numbers times the ratios is at most its bound."""
    numbers, under = whole_row(ratios)
    return all([summed_products(row, numbers) <= bound * under for row, bound in zip(rows, bounds)])


def have_at_least(rows, ratios, bounds):
    numbers, under = whole_row(ratios)
    return all([summed_products(row, numbers) >= bound * under for row, bound in zip(rows, bounds)])


def is_point(table, value):
    """Whether any value is a point of the table."""
    check_table(table)
    return are_shares(value, len(table[3])) and have_at_most(table[1], value, table[2])


def is_price_row(table, value):
    """Whether any value is a price row of the table."""
    check_table(table)
    return are_shares(value, len(table[1])) and have_at_least(columns(table), value, table[3])


def is_direction(table, value):
    """Whether any value is a direction of the table."""
    check_table(table)
    if not are_shares(value, len(table[3])) or not have_at_most(table[1], value, [0] * len(table[1])):
        return False
    return product_with(table[3], value)[0] > 0


def is_bar(table, value):
    """Whether any value is a bar of the table."""
    check_table(table)
    if not are_shares(value, len(table[1])) or not have_at_least(columns(table), value, [0] * len(table[3])):
        return False
    return product_with(table[2], value)[0] < 0


def are_best(table, point, prices):
    """Whether any values are a point and a price row of like worth and cost."""
    if not is_point(table, point) or not is_price_row(table, prices):
        return False
    return product_with(table[3], point) == product_with(table[2], prices)


def is_answer(table, value):
    """Whether any value is an answer of the table."""
    check_table(table)
    if is_headed(value, "best", 3):
        return are_best(table, value[1], value[2])
    if is_headed(value, "endless", 3):
        return is_point(table, value[1]) and is_direction(table, value[2])
    return is_headed(value, "none", 2) and is_bar(table, value[1])


def check_point(table, point):
    if not is_point(table, point):
        raise InvalidPoint(point)


def worth_of(table, point):
    """The sum of the worths times the point's numbers, a RATIO."""
    check_point(table, point)
    return product_with(table[3], point)


def tight_rows(table, point):
    """The rising list of the positions of the rows that hold with equality."""
    check_point(table, point)
    numbers, under = whole_row(point)
    return [at for at, row in enumerate(table[1]) if summed_products(row, numbers) == table[2][at] * under]
