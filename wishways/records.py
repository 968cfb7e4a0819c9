"""Records: texts of webs, wishes and papers of them, with a check at their end."""

from wishways.errors import BadText, InvalidRecord, InvalidText
from wishways.papers import check_paper, is_paper
from wishways.parser import traffic_of
from wishways.printer import traffic_text
from wishways.ratios import parse_ratio, ratio_text
from wishways.tokens import is_count

SIGNS = "\n 0123456789abcdefghijklmnopqrstuvwxyz/-"
BEYOND = 1000003
PAPER_WORDS = ("way", "lengths", "cut")


def are_signs(value):
    """Whether any value is a string of the forty signs alone."""
    return isinstance(value, str) and all([sign in SIGNS for sign in value])


def check_of(text):
    """The number that all signs of a string come to."""
    if not are_signs(text):
        raise InvalidText(text)
    number = 0
    for sign in text:
        number = (31 * number + SIGNS.index(sign)) % BEYOND
    return number


def with_numbers(words, numbers):
    """A line of words and numbers."""
    return " ".join(words + [str(number) for number in numbers]) + "\n"


def paper_text(paper):
    """The lines of a paper."""
    if paper[0] == "plan":
        return "".join([with_numbers(["way", ratio_text(ratio)], way) for way, ratio in paper[1]])
    return with_numbers([paper[0]], paper[1])


def record_of(web, wishes, paper):
    """The record, a string, of a web, wishes and a paper of them."""
    check_paper(web, wishes, paper)
    text = traffic_text(web, wishes) + paper_text(paper)
    return text + with_numbers(["check"], [check_of(text)])


def read_traffic(text):
    """The tuple (web, wishes) whose text it is, None if it is none."""
    try:
        return traffic_of(text)
    except BadText:
        return None


def read_ratio(text):
    """The ratio that a text tells, None if it tells none."""
    try:
        return parse_ratio(text)
    except BadText:
        return None


def read_counts(words):
    """The tuple of the COUNTS that words tell, None if one tells none."""
    return tuple([int(word) for word in words]) if all([is_count(word) for word in words]) else None


def read_way(words):
    """The tuple (way, ratio) that the words of a line tell; what they don't tell is None."""
    return (read_counts(words[2:]), read_ratio(words[1]) if len(words) > 1 else None)


def read_paper(lines):
    """The paper that lines tell if they tell any."""
    rows = [line.split(" ") for line in lines]
    if rows[0][0] == "way":
        return ("plan", tuple([read_way(words) for words in rows]))
    return (rows[0][0], read_counts(rows[0][1:]))


def told_by(value):
    """The tuple (web, wishes, paper) of any value that is a record, None of others."""
    if not are_signs(value):
        return None
    # The last line is the check, and nothing stands behind its line feed.
    lines = value.split("\n")[:-2]
    begins = [at for at, line in enumerate(lines) if line.partition(" ")[0] in PAPER_WORDS]
    if begins == []:
        return None
    traffic = read_traffic("".join([line + "\n" for line in lines[:begins[0]]]))
    if traffic is None:
        return None
    web, wishes = traffic
    paper = read_paper(lines[begins[0]:])
    # What can be read in one way alone is a record only if it is written so.
    if not is_paper(web, wishes, paper) or record_of(web, wishes, paper) != value:
        return None
    return (web, wishes, paper)


def is_record(value):
    return told_by(value) is not None


def read_record(record):
    """The tuple (web, wishes, paper) that a record tells."""
    told = told_by(record)
    if told is None:
        raise InvalidRecord(record)
    return told
