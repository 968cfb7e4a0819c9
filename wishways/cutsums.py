"""Distance tables as sums of cuts, and weighings that bar them."""

from wishways.amounts import is_above_none, summed
from wishways.basics import are_integers, is_rising, is_tuple_of, is_within
from wishways.distances import is_distance_table
from wishways.errors import InvalidMany, InvalidSharing, InvalidTable
from wishways.exchanges import answered
from wishways.partings import cuts_of_many, is_across, is_cut_of_many
from wishways.ratios import is_ratio
from wishways.rows import whole_row

MOST_SHARED = 5


def check_many(many):
    if not is_within(many, 2, MOST_SHARED):
        raise InvalidMany(many)


def check_distance_table(table):
    if not is_distance_table(table) or len(table) > MOST_SHARED:
        raise InvalidTable(table)


def pairs_of_many(many):
    """The sorted list of all pairs of so many places."""
    return [(one, other) for one in range(many) for other in range(one + 1, many)]


def is_share(value, many):
    """Whether any value is a tuple that may stand in a sharing."""
    return is_tuple_of(value, 2) and is_cut_of_many(many, value[0]) and is_ratio(value[1]) and is_above_none(value[1])


def is_sharing(many, value):
    """Whether any value is a sharing of so many places."""
    check_many(many)
    if not isinstance(value, tuple) or not all([is_share(share, many) for share in value]):
        return False
    return is_rising([cut for cut, _ in value])


def parted_by(sharing, one, other):
    """The sum of the ratios of the cuts that part the two."""
    return summed([ratio for cut, ratio in sharing if is_across(cut, (one, other))])


def table_of(many, sharing):
    """The list of lists of RATIOS that the cuts of the sharing come to."""
    if not is_sharing(many, sharing):
        raise InvalidSharing(sharing)
    return [[parted_by(sharing, one, other) for other in range(many)] for one in range(many)]


def is_sharing_of(table, value):
    """Whether any value is a sharing whose table it is."""
    check_distance_table(table)
    if not is_sharing(len(table), value):
        return False
    return all([parted_by(value, one, other) == (table[one][other], 1) for one, other in pairs_of_many(len(table))])


def packed_cuts(table):
    """The tuple (sharing, prices) of the cuts that come to most, pair by pair, without going beyond the table.

    They come to the whole table if any sharing does; if none does, the prices, one for each pair, make each cut cost as
    much as it comes to, and all the table less than that.
    """
    cuts = cuts_of_many(len(table))
    pairs = pairs_of_many(len(table))
    rows = [[1 if is_across(cut, pair) else 0 for cut in cuts] for pair in pairs]
    worths = [len([pair for pair in pairs if is_across(cut, pair)]) for cut in cuts]
    _, point, prices = answered(rows, distances_of_pairs(table), worths)
    return (tuple([(cut, ratio) for cut, ratio in zip(cuts, point) if is_above_none(ratio)]), prices)


def distances_of_pairs(table):
    return [table[one][other] for one, other in pairs_of_many(len(table))]


def sharing_of(table):
    """A sharing whose table it is, None if it is no sum of cuts."""
    check_distance_table(table)
    sharing, _ = packed_cuts(table)
    return sharing if is_sharing_of(table, sharing) else None


def weighing_of(table):
    """A weighing that bars the table, None if it is a sum of cuts."""
    check_distance_table(table)
    sharing, prices = packed_cuts(table)
    if is_sharing_of(table, sharing):
        return None
    numbers, under = whole_row(prices)
    return tuple([number - under for number in numbers])


def is_weighing(table, value):
    """Whether any value is a weighing that bars the table."""
    check_distance_table(table)
    pairs = pairs_of_many(len(table))
    if not is_tuple_of(value, len(pairs)) or not are_integers(value):
        return False
    for cut in cuts_of_many(len(table)):
        if sum([weight for weight, pair in zip(value, pairs) if is_across(cut, pair)]) < 0:
            return False
    return sum([weight * far for weight, far in zip(value, distances_of_pairs(table))]) < 0
