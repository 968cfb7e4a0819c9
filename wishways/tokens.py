"""Texts of webs and wishes, cut into tokens."""

from wishways.basics import check_text
from wishways.errors import BadText

WORDS = ("places", "tie", "wish")
MOST_DIGITS = 20


def tokens(text):
    """The list, row by row, of the lists of tuples (token, position), without empty rows."""
    return [row for row, _ in ended_rows(text)]


def ended_rows(text):
    """The rows that have tokens, each as a tuple (tokens, place that stands for the row's end)."""
    check_text(text)
    rows = []
    begin = 0
    for line in text.split("\n"):
        told = line.partition("#")[0]
        row = tokens_of(told, begin)
        if row:
            rows.append((row, begin + len(told)))
        begin += len(line) + 1
    return rows


def tokens_of(told, begin):
    """The list of the tokens of a row without its remark, which begins at this place of the text."""
    row = []
    at = 0
    while at < len(told):
        if told[at] == " ":
            at += 1
            continue
        end = run_end(told, at)
        if not is_token(told[at:end], told[end:end + 1]):
            raise BadText(begin + at)
        row.append((told[at:end], begin + at))
        at = end
    return row


def run_end(told, at):
    """The place behind the whole run of small letters, or of digits, that begins here; here if none does."""
    is_sign = is_letter if is_letter(told[at]) else is_digit
    end = at
    while end < len(told) and is_sign(told[end]):
        end += 1
    return end


def is_token(run, behind):
    """Whether a whole run is a token, with this sign, or nothing, directly behind it."""
    if run in WORDS:
        return not is_digit(behind)
    return is_number(run) and not is_letter(behind)


def is_number(run):
    """Whether a whole run is digits without needless zeros, not too many."""
    if run == "" or not is_digit(run[0]) or len(run) > MOST_DIGITS:
        return False
    return run[0] != "0" or len(run) == 1


def is_count(text):
    """Whether a string is digits without needless zeros, not too many."""
    return all([is_digit(sign) for sign in text]) and is_number(text)


def is_letter(sign):
    return "a" <= sign <= "z"


def is_digit(sign):
    return "0" <= sign <= "9"
