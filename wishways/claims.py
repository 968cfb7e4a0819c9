"""Claims on traffic: whether they are true, and what papers of them are."""

from wishways.cuts import has_room_everywhere
from wishways.deciding import is_served
from wishways.fourplaces import are_good
from wishways.papers import is_paper
from wishways.webs import pairs_of

CONTRARY = {
    "served": "barred",
    "barred": "served",
    "roomy": "crowded",
    "crowded": "roomy",
    "good": "bad",
    "bad": "good",
}


def is_true(word, web, wishes):
    """Whether the claim with this word is true of the traffic."""
    if word in ("served", "barred"):
        return is_served(web, wishes) == (word == "served")
    if word in ("roomy", "crowded"):
        return has_room_everywhere(web, wishes) == (word == "roomy")
    return are_good(pairs_of(wishes)) == (word == "good")


def is_paper_of(word, web, wishes, value):
    """Whether any value is a paper of the claim with this word, or of its contrary, for the traffic.

    Of which of both it is one is told by its own first word: a plan serves, all others bar.
    """
    if word in ("good", "bad") or not is_paper(web, wishes, value):
        return False
    return word in ("served", "barred") or value[0] == "cut"
