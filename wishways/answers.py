"""What a desk answers to questions on what is kept."""

from wishways.commands import lines_of
from wishways.cuts import least_slack, over_asked
from wishways.kinds import kind_of
from wishways.leastcuts import least_cut, least_room
from wishways.ratios import ratio_text
from wishways.served import share
from wishways.webs import pairs_of, room_between


def list_text(numbers):
    return ",".join([str(number) for number in numbers])


def in_row(words):
    """The words with blanks between them, a dash for none."""
    return " ".join(words) if words else "-"


def states_text(rows):
    """The labels with their states, with a comma and a blank between these, a dash for none."""
    return ", ".join([label + " " + state for label, state in rows]) if rows else "-"


def least_text(web, one, other):
    cut = least_cut(web, one, other)
    return list_text(cut) + " " + str(least_room(web, one, other))


def answer_on(word, web, wishes, told):
    """The answer to a question on traffic, by its word and what stands behind the name."""
    if word == "show":
        return lines_of(web, wishes)
    if word == "same":
        return "yes" if (web, wishes) == told[0] else "no"
    if word == "room":
        return str(room_between(web, told[0], told[1]))
    if word == "least":
        return least_text(web, told[0], told[1])
    if word == "over":
        return in_row([list_text(cut) for cut in over_asked(web, wishes)])
    if word == "slack":
        return str(least_slack(web, wishes)[1])
    if word == "share":
        return ratio_text(share(web, wishes))
    return kind_of(pairs_of(wishes))[0]
