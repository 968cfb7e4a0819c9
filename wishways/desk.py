"""A desk, which keeps traffic under names, notes claims on it under labels, and tells how they change."""

from wishways.answers import answer_on, in_row, states_text
from wishways.basics import is_listed
from wishways.claims import is_paper_of, is_true
from wishways.commands import DEEDS, is_deed, is_name, kinds_behind, read_command
from wishways.deeds import done
from wishways.errors import CommandFailed, InvalidCommand, InvalidDeeds, InvalidPaper, LabelTaken, LimitError
from wishways.errors import MissingError, NameTaken, NothingToRedo, NothingToUndo, StateError, TooMany, UnknownLabel
from wishways.errors import UnknownName, WayError

MOST_NAMES = 8
MOST_LABELS = 8
MOST_DEEDS = 200


class Page:
    """What a deed left behind: its line, what is kept, what is claimed, and the states. It is never changed."""

    def __init__(self, line, traffic, claims, states):
        self.line = line
        self.traffic = traffic
        self.claims = claims
        self.states = states


def state_of(claim, traffic):
    """The state of a claim, a tuple (word, name)."""
    word, name = claim
    if name not in traffic:
        return "gone"
    web, wishes = traffic[name]
    return "true" if is_true(word, web, wishes) else "false"


def states_after(page, traffic, claims):
    """The dict of all states behind a page; what the deed can't have changed is not told anew."""
    states = {}
    for label, claim in claims.items():
        stays = page.claims.get(label) == claim and page.traffic.get(claim[1]) == traffic.get(claim[1])
        states[label] = page.states[label] if stays else state_of(claim, traffic)
    return states


def check_taken(page, kinds, told):
    """What is new must not be there as yet."""
    for kind, part in zip(kinds, told):
        if kind == "new" and part in page.traffic:
            raise NameTaken(part)
        if kind == "new label" and part in page.claims:
            raise LabelTaken(part)


def check_there(page, kinds, told):
    """What is named must be there."""
    for kind, part in zip(kinds, told):
        if kind == "name" and part not in page.traffic:
            raise UnknownName(part)
        if kind == "label" and part not in page.claims:
            raise UnknownLabel(part)


def page_after(page, many, line, word, told):
    """The page that a deed leaves behind, so many having been left ahead of it."""
    traffic, claims = done(word, told, page.traffic, page.claims)
    if len(traffic) > MOST_NAMES:
        raise TooMany("names", MOST_NAMES)
    if len(claims) > MOST_LABELS:
        raise TooMany("labels", MOST_LABELS)
    if many == MOST_DEEDS:
        raise TooMany("deeds", MOST_DEEDS)
    return Page(line, traffic, claims, states_after(page, traffic, claims))


def changes(page, after):
    """The text of the labels whose states are others than ahead."""
    return states_text([(label, state) for label, state in sorted(after.states.items())
                        if page.states.get(label) != state])


def answered_on(page, word, told):
    """The answer to a question."""
    if word == "names":
        return in_row(sorted(page.traffic))
    if word == "states":
        return states_text(sorted(page.states.items()))
    if word == "state":
        return page.states[told[0]]
    if word == "claimed":
        return in_row(list(page.claims[told[0]]))
    web, wishes = page.traffic[told[0]]
    if word == "same":
        return answer_on(word, web, wishes, [page.traffic[told[1]]])
    return answer_on(word, web, wishes, told[1:])


class Desk:
    """Pages are what all deeds left behind, those that were taken back, too; the present one is told by its number."""

    def __init__(self):
        self.pages = [Page("", {}, {}, {})]
        self.present = 0
        self.papers = {}

    def names(self):
        """The sorted list of the names under which traffic is kept."""
        return sorted(self.pages[self.present].traffic)

    def labels(self):
        """The sorted list of the labels under which claims are noted."""
        return sorted(self.pages[self.present].claims)

    def kept(self, name):
        """The tuple (web, wishes) under a name."""
        page = self.pages[self.present]
        if not is_name(name) or name not in page.traffic:
            raise UnknownName(name)
        return page.traffic[name]

    def many_deeds(self):
        """How many deeds can be taken back."""
        return self.present

    def lines(self):
        """The list of the lines of the deeds that are not taken back."""
        return [page.line for page in self.pages[1:self.present + 1]]

    def do(self, command):
        """The answer to a command."""
        read = read_command(command)
        if read is None:
            raise InvalidCommand(command)
        word, told = read
        page, kinds = self.pages[self.present], kinds_behind(word)
        check_taken(page, kinds, told)
        check_there(page, kinds, told)
        if word == "undo":
            return self.take_back()
        if word == "redo":
            return self.do_again()
        if word not in DEEDS:
            return answered_on(page, word, told)
        after = page_after(page, self.present, command, word, told)
        self.pages = self.pages[:self.present + 1] + [after]
        self.present += 1
        return changes(page, after)

    def take_back(self):
        """The line of the last deed, which is taken back."""
        if self.present == 0:
            raise NothingToUndo()
        self.present -= 1
        return self.pages[self.present + 1].line

    def do_again(self):
        """The line of the last deed that was taken back, which is done again."""
        if self.present == len(self.pages) - 1:
            raise NothingToRedo()
        self.present += 1
        return self.pages[self.present].line

    def do_all(self, commands):
        """The list of the answers; if one command fails, none has an effect."""
        if not is_listed(commands):
            raise InvalidDeeds(None)
        trial = self.twin()
        answers = []
        for position, command in enumerate(commands):
            try:
                answers.append(trial.do(command))
            except (WayError, MissingError, StateError, LimitError) as why:
                raise CommandFailed(position) from why
        self.pages, self.present = trial.pages, trial.present
        return answers

    def claim_under(self, label):
        """The tuple (word, name) of the claim under a label."""
        page = self.pages[self.present]
        if not is_name(label) or label not in page.claims:
            raise UnknownLabel(label)
        return page.claims[label]

    def is_paper_now(self, claim, value):
        """Whether any value is a paper of a claim, or of its contrary, for what is kept now."""
        word, name = claim
        traffic = self.pages[self.present].traffic
        return name in traffic and is_paper_of(word, traffic[name][0], traffic[name][1], value)

    def attach(self, label, paper):
        """Keep a paper of the label's claim, or of its contrary, with the label."""
        claim = self.claim_under(label)
        if not self.is_paper_now(claim, paper):
            raise InvalidPaper(paper)
        self.papers[label] = (claim, paper)

    def fits(self, label):
        """Whether the paper that is kept with the label is still one of what it was one of, for the same claim."""
        claim = self.claim_under(label)
        if label not in self.papers:
            return False
        noted, paper = self.papers[label]
        return noted == claim and self.is_paper_now(claim, paper)

    def twin(self):
        """A desk that goes on by itself, with all of this one."""
        other = Desk()
        other.pages = list(self.pages)
        other.present = self.present
        other.papers = {label: told for label, told in self.papers.items()}
        return other


def begun(lines):
    """A desk that has done these deeds."""
    if not is_listed(lines):
        raise InvalidDeeds(None)
    for position, line in enumerate(lines):
        if not is_deed(line):
            raise InvalidDeeds(position)
    desk = Desk()
    desk.do_all(lines)
    return desk
