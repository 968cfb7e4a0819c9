"""What every module asks of values that may be of any kind."""

from wishways.errors import InvalidText


def is_integer(value):
    return isinstance(value, int) and not isinstance(value, bool)


def is_within(value, least, most):
    """Whether any value is an INTEGER from least to most."""
    return is_integer(value) and least <= value <= most


def is_listed(value):
    """Whether any value may stand where a list is asked for."""
    return isinstance(value, (list, tuple))


def is_tuple_of(value, many):
    """Whether any value is a tuple of so many."""
    return isinstance(value, tuple) and len(value) == many


def is_headed(value, word, many):
    """Whether any value is a tuple of so many that begins with the word."""
    # A value of any kind may say of itself that it equals the word.
    return is_tuple_of(value, many) and isinstance(value[0], str) and value[0] == word


def are_integers(value):
    """Whether all of a list or tuple are INTEGERS."""
    return all([is_integer(number) for number in value])


def is_rising(row):
    """Whether each of a list or tuple, of values that can be compared, is above the one ahead of it."""
    return all([low < high for low, high in zip(row, row[1:])])


def is_same(value, told):
    """Whether any value is just what is told: a string, an INTEGER, or a tuple of such."""
    if isinstance(told, tuple):
        return is_tuple_of(value, len(told)) and all([is_same(part, known) for part, known in zip(value, told)])
    if isinstance(told, str):
        return isinstance(value, str) and value == told
    return is_integer(value) and value == told


def check_text(text):
    if not isinstance(text, str):
        raise InvalidText(text)
