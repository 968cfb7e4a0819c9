"""The errors of the package, those that only later modules raise, too.

Each keeps what it was made with, and nothing else: what was passed may be of any kind,
so no message is made of it here.
"""


class WayError(ValueError):
    """What was passed is not what was asked for."""


class InvalidInteger(WayError):
    def __init__(self, value):
        self.value = value


class InvalidRatio(WayError):
    def __init__(self, value):
        self.value = value


class InvalidPlace(WayError):
    def __init__(self, value):
        self.value = value


class InvalidWeb(WayError):
    def __init__(self, value):
        self.value = value


class InvalidWishes(WayError):
    def __init__(self, value):
        self.value = value


class InvalidPairs(WayError):
    def __init__(self, value):
        self.value = value


class InvalidCut(WayError):
    def __init__(self, value):
        self.value = value


class InvalidPlan(WayError):
    def __init__(self, value):
        self.value = value


class InvalidLengths(WayError):
    def __init__(self, value):
        self.value = value


class InvalidText(WayError):
    def __init__(self, value):
        self.value = value


class InvalidMany(WayError):
    def __init__(self, value):
        self.value = value


class InvalidPosition(WayError):
    def __init__(self, value):
        self.value = value


class BadText(WayError):
    def __init__(self, position):
        self.position = position


class InvalidCircuit(WayError):
    def __init__(self, value):
        self.value = value


class InvalidCommand(WayError):
    def __init__(self, value):
        self.value = value


class InvalidCuts(WayError):
    def __init__(self, value):
        self.value = value


class InvalidDeeds(WayError):
    def __init__(self, position):
        self.position = position


class InvalidFlat(WayError):
    def __init__(self, value):
        self.value = value


class InvalidFlow(WayError):
    def __init__(self, value):
        self.value = value


class InvalidLot(WayError):
    def __init__(self, value):
        self.value = value


class InvalidMarks(WayError):
    def __init__(self, value):
        self.value = value


class InvalidOrder(WayError):
    def __init__(self, value):
        self.value = value


class InvalidPacking(WayError):
    def __init__(self, value):
        self.value = value


class InvalidPaper(WayError):
    def __init__(self, value):
        self.value = value


class InvalidPlaces(WayError):
    def __init__(self, value):
        self.value = value


class InvalidPoint(WayError):
    def __init__(self, value):
        self.value = value


class InvalidPoints(WayError):
    def __init__(self, value):
        self.value = value


class InvalidPrices(WayError):
    def __init__(self, value):
        self.value = value


class InvalidRatios(WayError):
    def __init__(self, value):
        self.value = value


class InvalidRecord(WayError):
    def __init__(self, value):
        self.value = value


class InvalidRow(WayError):
    def __init__(self, value):
        self.value = value


class InvalidRows(WayError):
    def __init__(self, value):
        self.value = value


class InvalidSharing(WayError):
    def __init__(self, value):
        self.value = value


class InvalidSide(WayError):
    def __init__(self, value):
        self.value = value


class InvalidStep(WayError):
    def __init__(self, value):
        self.value = value


class InvalidSurplus(WayError):
    def __init__(self, value):
        self.value = value


class InvalidTable(WayError):
    def __init__(self, value):
        self.value = value


class InvalidTies(WayError):
    def __init__(self, value):
        self.value = value


class InvalidTolls(WayError):
    def __init__(self, value):
        self.value = value


class InvalidTree(WayError):
    def __init__(self, value):
        self.value = value


class InvalidTurning(WayError):
    def __init__(self, value):
        self.value = value


class InvalidWay(WayError):
    def __init__(self, value):
        self.value = value


class InvalidWish(WayError):
    def __init__(self, value):
        self.value = value


class MissingError(LookupError):
    """What was asked for is not there."""


class NoTie(MissingError):
    def __init__(self, one, other):
        self.one = one
        self.other = other


class UnknownLabel(MissingError):
    def __init__(self, value):
        self.value = value


class UnknownName(MissingError):
    def __init__(self, value):
        self.value = value


class StateError(RuntimeError):
    """What was asked for can't be done with what is there."""


class CommandFailed(StateError):
    def __init__(self, position):
        self.position = position


class GoodPairs(StateError):
    """The pairs are good ones, so no web bars them that has room everywhere."""


class LabelTaken(StateError):
    def __init__(self, label):
        self.label = label


class NameTaken(StateError):
    def __init__(self, name):
        self.name = name


class NoHubs(StateError):
    """The pairs are not at two hubs."""


class NoPoint(StateError):
    """The table has no point."""


class NoQuotient(StateError):
    """Nothing is divided by 0."""


class NoWish(StateError):
    """The pair wishes nothing."""


class NotGood(StateError):
    """The pairs are not good ones."""


class NotInner(StateError):
    """The place is a marked one."""


class NotInnerEven(StateError):
    """The web is not inner even for the marks."""


class NotTied(StateError):
    """The two places are not tied."""


class NotTwo(StateError):
    """There are not just two wishes."""


class NothingToRedo(StateError):
    """No deed was taken back that could be done again."""


class NothingToUndo(StateError):
    """No deed is left that could be taken back."""


class OddPlace(StateError):
    def __init__(self, place):
        self.place = place


class UnlikeLengths(StateError):
    """The two rows are not of one length."""


class LimitError(ArithmeticError):
    """There would be more than is let."""


class TooMany(LimitError):
    def __init__(self, what, limit):
        self.what = what
        self.limit = limit
