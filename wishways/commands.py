"""Commands of a desk, judged by their words alone."""

from wishways.claims import CONTRARY
from wishways.errors import BadText
from wishways.parser import traffic_of
from wishways.printer import traffic_text
from wishways.tokens import is_count, is_digit, is_letter

# What stands behind the first word of each command.
DEEDS = {
    "traffic": ("new", "lines"),
    "tie": ("name", "number", "number", "number"),
    "untie": ("name", "number", "number"),
    "wish": ("name", "number", "number", "number"),
    "unwish": ("name", "number", "number"),
    "renumber": ("name", "list"),
    "copy": ("new", "name"),
    "drop": ("name",),
    "claim": ("new label", "word", "name"),
    "forget": ("label",),
}
QUESTIONS = {
    "undo": (),
    "redo": (),
    "state": ("label",),
    "states": (),
    "claimed": ("label",),
    "names": (),
    "show": ("name",),
    "same": ("name", "name"),
    "room": ("name", "number", "number"),
    "least": ("name", "number", "number"),
    "over": ("name",),
    "slack": ("name",),
    "share": ("name",),
    "kind": ("name",),
}
NAME_KINDS = ("new", "name", "new label", "label")
MOST_SIGNS = 8
MOST_DIGITS = 6
MOST_LISTED = 8


def is_name(value):
    """Whether any value is a string of one to eight small letters and digits, the first one a letter."""
    if not isinstance(value, str) or not 1 <= len(value) <= MOST_SIGNS or not is_letter(value[0]):
        return False
    return all([is_letter(sign) or is_digit(sign) for sign in value])


def is_short_count(text):
    return is_count(text) and len(text) <= MOST_DIGITS


def lines_of(web, wishes):
    """The rows of the traffic's text, with a semicolon and a blank between them."""
    return traffic_text(web, wishes)[:-1].replace("\n", "; ")


def read_lines(text):
    """The tuple (web, wishes) whose lines they are, None if they are none."""
    try:
        web, wishes = traffic_of(text.replace("; ", "\n"))
    except BadText:
        return None
    return (web, wishes) if lines_of(web, wishes) == text else None


def read_list(text):
    """The list of the numbers with commas between them, None if there are others, or too many."""
    parts = text.split(",")
    if len(parts) > MOST_LISTED or not all([is_short_count(part) for part in parts]):
        return None
    return [int(part) for part in parts]


def read_part(kind, part):
    """What a part of a command tells, None if it is not of its kind."""
    if kind in NAME_KINDS:
        return part if is_name(part) else None
    if kind == "number":
        return int(part) if is_short_count(part) else None
    if kind == "word":
        return part if part in CONTRARY else None
    return read_lines(part) if kind == "lines" else read_list(part)


def kinds_behind(word):
    """The tuple of the kinds of the parts behind the first word of a command, None if none begins with it."""
    return DEEDS[word] if word in DEEDS else QUESTIONS.get(word)


def read_command(value):
    """The tuple (word, list of what its parts tell) of any value that is a command, None of others."""
    if not isinstance(value, str):
        return None
    word = value.partition(" ")[0]
    kinds = kinds_behind(word)
    if kinds is None:
        return None
    # The last part is all the rest, so that lines keep their blanks.
    parts = value.split(" ", len(kinds))
    if len(parts) <= len(kinds) or parts[0] != word:
        return None
    told = [read_part(kind, part) for kind, part in zip(kinds, parts[1:])]
    return None if None in told else (word, told)


def is_command(value):
    """Whether any value is a string that is a command by its words alone."""
    return read_command(value) is not None


def is_deed(value):
    """Whether any value is a command that is a deed."""
    told = read_command(value)
    return told is not None and told[0] in DEEDS
