"""What is told of tables by solving them: duals, points, bars and ranges."""

from wishways.basics import is_within
from wishways.errors import InvalidPosition, NoPoint
from wishways.exchanges import answered
from wishways.tables import check_table, columns


def contrary(row):
    return tuple([-number for number in row])


def dual_table(table):
    """The dual: a row for each position, a position for each row, all numbers taken contrary."""
    check_table(table)
    rows = tuple([contrary(column) for column in columns(table)])
    return ("table", rows, contrary(table[3]), contrary(table[2]))


def worth_at(table, position, worth):
    """An answer of the table with this worth at this position, and nothing else of worth."""
    worths = [worth if at == position else 0 for at in range(len(table[3]))]
    return answered(table[1], table[2], worths)


def some_point(table):
    """A point, None if there is none."""
    check_table(table)
    answer = worth_at(table, 0, 0)
    return None if answer[0] == "none" else answer[1]


def some_bar(table):
    """A bar, None if there is none."""
    check_table(table)
    answer = worth_at(table, 0, 0)
    return answer[1] if answer[0] == "none" else None


def has_point(table):
    return some_point(table) is not None


def range_at(table, position):
    """The tuple (least, greatest) of the points' numbers at a position, None as the greatest if there is no end."""
    check_table(table)
    if not is_within(position, 0, len(table[3]) - 1):
        raise InvalidPosition(position)
    low = worth_at(table, position, -1)
    if low[0] == "none":
        raise NoPoint()
    high = worth_at(table, position, 1)
    return (low[1][position], high[1][position] if high[0] == "best" else None)
