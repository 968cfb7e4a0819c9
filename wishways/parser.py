"""Texts of webs and of traffic, read."""

from wishways.errors import BadText
from wishways.links import are_joined
from wishways.tokens import ended_rows, is_number
from wishways.webs import MOST_PLACES, MOST_ROOM, MOST_TIES, MOST_WISHES, made_rows


def web_of(text):
    """The web whose text it is."""
    rows = ended_rows(text)
    check_rows_stand(rows, ("tie",), len(text))
    return checked_web(rows, len(text))


def traffic_of(text):
    """The tuple (web, wishes) whose text it is."""
    rows = ended_rows(text)
    check_rows_stand(rows, ("tie", "wish"), len(text))
    web = checked_web(rows, len(text))
    wishes = made_rows(numbers_behind(rows, "wish"))
    if not wishes:
        raise BadText(len(text))
    return (web, wishes)


def checked_web(rows, end):
    """The web of rows whose tokens can stand: BadText of the first one that isn't let, or of the text's end."""
    many = checked_many(rows[0][0])
    check_rows_let(rows[1:], many)
    ties = made_rows(numbers_behind(rows, "tie"))
    if not are_joined(list(range(many)), ties):
        raise BadText(end)
    return ("web", many, ties)


def check_rows_stand(rows, words, end):
    """BadText of the first token, or row's end, that can't stand by the rows."""
    if not rows:
        raise BadText(end)
    check_row_stands(rows[0], ("places",), 1)
    for row in rows[1:]:
        check_row_stands(row, words, 3)


def check_row_stands(row, words, numbers):
    """A row must be one of the words, then so many numbers."""
    told, end = row
    if told[0][0] not in words:
        raise BadText(told[0][1])
    for token, position in told[1:numbers + 1]:
        if not is_number(token):
            raise BadText(position)
    if len(told) <= numbers:
        raise BadText(end)
    if len(told) > numbers + 1:
        raise BadText(told[numbers + 1][1])


def checked_many(told):
    many = int(told[1][0])
    if not 2 <= many <= MOST_PLACES:
        raise BadText(told[1][1])
    return many


def check_rows_let(rows, many):
    """BadText of the first token behind the row of places that isn't let where it stands."""
    most = {"tie": MOST_TIES, "wish": MOST_WISHES}
    earlier = {"tie": [], "wish": []}
    for told, _ in rows:
        word, position = told[0]
        if len(earlier[word]) == most[word]:
            raise BadText(position)
        earlier[word].append(checked_pair(told, many, earlier[word]))


def checked_pair(told, many, earlier):
    """The pair of a row of a tie or wish, the lesser place first."""
    one, other, much = numbers_of(told)
    if one >= many:
        raise BadText(told[1][1])
    pair = (min(one, other), max(one, other))
    if other >= many or other == one or pair in earlier:
        raise BadText(told[2][1])
    if not 1 <= much <= MOST_ROOM:
        raise BadText(told[3][1])
    return pair


def numbers_of(told):
    return tuple([int(token) for token, _ in told[1:]])


def numbers_behind(rows, word):
    """The numbers of all rows that begin with the word."""
    return [numbers_of(told) for told, _ in rows if told[0][0] == word]
