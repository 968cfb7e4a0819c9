"""Tables solved: by exchanges, and by a plain look at all corners."""

from itertools import combinations
from math import comb

from wishways.amounts import is_at_most
from wishways.errors import TooMany
from wishways.exchanges import answered
from wishways.ratios import reduced
from wishways.tables import are_shares, check_table, have_at_most, product_with

MOST_CHOICES = 500


def solved(table):
    """An answer of the table."""
    check_table(table)
    return answered(table[1], table[2], table[3])


def best_worth(table):
    """The greatest worth where the answer is best, None otherwise."""
    answer = solved(table)
    return product_with(table[3], answer[1]) if answer[0] == "best" else None


def pivot_row(lines, at):
    """The first line from this one on that has something at this position, None without one."""
    for row in range(at, len(lines)):
        if lines[row][at] != 0:
            return row
    return None


def only_answer(lines):
    """The only ratios that make equations hold, each line the numbers, as many as lines, and what they come to.

    None if there are several such ratios, or none.
    """
    under = 1
    for at in range(len(lines)):
        row = pivot_row(lines, at)
        if row is None:
            return None
        chief = lines[row]
        others = lines[:row] + lines[row + 1:]
        made = [[(number * chief[at] - line[at] * other) // under for number, other in zip(line, chief)]
                for line in others]
        lines = made[:at] + [chief] + made[at:]
        under = chief[at]
    return [reduced(line[-1], under) for line in lines]


def corner(table, limits):
    """The point at which the limits hold, rows first, then positions; None if it is no corner."""
    many = len(table[1])
    positions = [at for at in range(len(table[3])) if many + at not in limits]
    lines = [[table[1][row][at] for at in positions] + [table[2][row]] for row in limits if row < many]
    numbers = only_answer(lines)
    if numbers is None:
        return None
    told = dict(zip(positions, numbers))
    point = tuple([told.get(at, (0, 1)) for at in range(len(table[3]))])
    return point if are_shares(point, len(table[3])) and have_at_most(table[1], point, table[2]) else None


def plain_best(table):
    """The greatest worth of a corner, by all choices of so many limits; None if there is no corner."""
    check_table(table)
    many = len(table[3])
    if comb(len(table[1]) + many, many) > MOST_CHOICES:
        raise TooMany("choices", MOST_CHOICES)
    best = None
    for limits in combinations(range(len(table[1]) + many), many):
        point = corner(table, limits)
        if point is not None:
            worth = product_with(table[3], point)
            best = worth if best is None or is_at_most(best, worth) else best
    return best
