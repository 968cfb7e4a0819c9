"""Papers that serve or bar, their sides, lesser wishes, and papers of the share."""

from wishways.amounts import is_above_none, multiplied, taken_up_to
from wishways.basics import is_headed
from wishways.errors import InvalidPaper, InvalidPlan, InvalidWishes
from wishways.lengths import are_lengths, bars, crossing_lengths, had, spent
from wishways.partings import is_cut, sum_across
from wishways.plans import fits, got, is_plan, loads, parts_of_pair, serves
from wishways.ratios import is_ratio
from wishways.webs import are_wishes, check_traffic


def does_serve_well(web, wishes, value):
    """Whether any value is a plan that fits and serves the wishes."""
    return is_plan(web, wishes, value) and fits(web, wishes, value) and serves(web, wishes, value)


def is_asked_too_much(web, wishes, value):
    """Whether any value is a cut that is over-asked."""
    return is_cut(web, value) and sum_across(web[2], value) < sum_across(wishes, value)


def is_paper(web, wishes, value):
    """Whether any value is a paper of the web with the wishes."""
    check_traffic(web, wishes)
    if is_headed(value, "plan", 2):
        return does_serve_well(web, wishes, value[1])
    if is_headed(value, "lengths", 2):
        return are_lengths(web, value[1]) and bars(web, wishes, value[1])
    return is_headed(value, "cut", 2) and is_asked_too_much(web, wishes, value[1])


def check_paper(web, wishes, paper):
    if not is_paper(web, wishes, paper):
        raise InvalidPaper(paper)


def does_paper_serve(web, wishes, paper):
    """Whether the paper is one that serves."""
    check_paper(web, wishes, paper)
    return paper[0] == "plan"


def sides(web, wishes, paper):
    """The tuple of the paper's sides: what there is room for and what is asked, or loads and what is got."""
    check_paper(web, wishes, paper)
    word, told = paper
    if word == "cut":
        return (sum_across(web[2], told), sum_across(wishes, told))
    if word == "lengths":
        return (had(web, told), spent(web, wishes, told))
    return (loads(web, wishes, told), got(web, wishes, told))


def as_lengths(web, wishes, paper):
    """The lengths paper to which a paper that bars is led."""
    if does_paper_serve(web, wishes, paper):
        raise InvalidPaper(paper)
    word, told = paper
    return ("lengths", crossing_lengths(web, told) if word == "cut" else told)


def is_lesser(web, wishes, value):
    """Whether any value is wishes of the web that are lesser than the wishes."""
    check_traffic(web, wishes)
    if not are_wishes(web, value):
        return False
    most = {(one, other): wish for one, other, wish in wishes}
    return all([wish <= most.get((one, other), 0) for one, other, wish in value])


def trimmed(web, wishes, plan, later):
    """The plan that serves the wishes, trimmed to the later, lesser ones."""
    if not is_plan(web, wishes, plan) or not serves(web, wishes, plan):
        raise InvalidPlan(plan)
    if not is_lesser(web, wishes, later):
        raise InvalidWishes(later)
    kept = []
    for wish in later:
        kept.extend(taken_up_to(parts_of_pair(plan, wish), (wish[2], 1)))
    return tuple(sorted(kept))


def reaches(web, wishes, ratio, plan):
    """Whether any value is a plan that fits and gives each pair the ratio times its wish."""
    if not is_plan(web, wishes, plan) or not fits(web, wishes, plan):
        return False
    return got(web, wishes, plan) == tuple([multiplied(ratio, (wish[2], 1)) for wish in wishes])


def meets(web, wishes, ratio, lengths):
    """Whether any value is lengths by which what the web has is the ratio times what the wishes spend, above 0."""
    if not are_lengths(web, lengths):
        return False
    much = spent(web, wishes, lengths)
    return much > 0 and had(web, lengths) * ratio[1] == much * ratio[0]


def is_share_paper(web, wishes, value):
    """Whether any value is a share paper of the web with the wishes."""
    check_traffic(web, wishes)
    if not is_headed(value, "share", 4) or not is_ratio(value[1]) or not is_above_none(value[1]):
        return False
    _, ratio, plan, lengths = value
    return reaches(web, wishes, ratio, plan) and meets(web, wishes, ratio, lengths)
