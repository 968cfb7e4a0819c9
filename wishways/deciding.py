"""What is decided of a web with wishes: whether they are served, and a paper of it."""

from wishways.amounts import is_at_most
from wishways.cuts import over_asked
from wishways.served import barring_lengths, serving_plan, share, share_told
from wishways.webs import check_traffic


def is_served(web, wishes):
    """Whether the wishes are served."""
    return is_at_most((1, 1), share(web, wishes))


def reason(web, wishes):
    """The word "cut" if some cut is over-asked, else "lengths" if the wishes aren't served, else "plan"."""
    if over_asked(web, wishes):
        return "cut"
    return "plan" if is_served(web, wishes) else "lengths"


def decided(web, wishes):
    """A paper that begins with the reason."""
    cuts = over_asked(web, wishes)
    if cuts:
        return ("cut", cuts[0])
    plan = serving_plan(web, wishes)
    return ("lengths", barring_lengths(web, wishes)) if plan is None else ("plan", plan)


def share_paper(web, wishes):
    """The tuple ("share", share, plan, lengths) of a plan and lengths that reach the share."""
    check_traffic(web, wishes)
    ratio, plan, lengths = share_told(web, wishes)
    return ("share", ratio, plan, lengths)


def greatest_times(web, wishes):
    """The greatest COUNT by which all wishes may be multiplied and be served."""
    ratio = share(web, wishes)
    return ratio[0] // ratio[1]
