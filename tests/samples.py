"""What the tests have in common: webs made without chance, plain looks at them, and values of any kind."""

import functools
import math
from fractions import Fraction
from itertools import combinations


class Touchy:
    """A value that bears no question but what kind it is of."""

    def _refuse(self, *told):
        raise AssertionError("a value of any kind was asked more than its kind")

    __eq__ = __ne__ = __lt__ = __le__ = __gt__ = __ge__ = _refuse
    __hash__ = __len__ = __iter__ = __bool__ = __contains__ = __getitem__ = __int__ = __index__ = _refuse


def deep(levels):
    value = ()
    for _ in range(levels):
        value = (value,)
    return value


TOUCHY = Touchy()
STRANGE = [None, True, False, -1, 10 ** 39, "", "web", "table", "012", b"", b"web", (), [], {}, set(), {0: 1}, {0, 1},
           frozenset(), object(), int, len, range(3), TOUCHY, (TOUCHY,), [TOUCHY], (TOUCHY,) * 2, (TOUCHY,) * 3,
           (TOUCHY,) * 4, [TOUCHY] * 3, ("web", TOUCHY, TOUCHY), ("web", 3, TOUCHY), ("web", 3, (TOUCHY,)),
           ("table", TOUCHY, TOUCHY, TOUCHY), (None,), ([],), ({},), (set(),), ("",), (True,), (False, True),
           (1, None), (None, 1), ((),), ((), ()), deep(50), [[]], "places 2\ntie 0 1 1\n"]

NOT_EMPTY = [value for value in STRANGE if not isinstance(value, tuple) or len(value) > 0]

# Two places, both ways round, and webs of all sizes; what is asked of them stands beside.
LEAST = ("web", 2, ((0, 1, 1),))
LINE = ("web", 3, ((0, 1, 3), (1, 2, 4)))
RING = ("web", 4, ((0, 1, 2), (0, 3, 1), (1, 2, 1), (2, 3, 2)))
KITE = ("web", 4, ((0, 1, 2), (0, 2, 1), (1, 2, 1), (1, 3, 1), (2, 3, 2)))
BOTH = ("web", 5, ((0, 2, 1), (0, 3, 1), (0, 4, 1), (1, 2, 1), (1, 3, 1), (1, 4, 1)))
SQUARE = ("web", 4, ((0, 1, 1), (0, 3, 1), (1, 2, 1), (2, 3, 1)))
WIDE = ("web", 4, ((0, 1, 2), (0, 3, 2), (1, 2, 2), (2, 3, 2)))
WHEEL = ("web", 8, ((0, 1, 3), (0, 2, 20), (0, 3, 1), (0, 4, 2), (0, 5, 7), (0, 6, 1), (0, 7, 4),
                    (1, 2, 5), (1, 7, 1), (2, 3, 9), (3, 4, 1), (4, 5, 2), (5, 6, 20), (6, 7, 3)))


class Numbers:
    """INTEGERS that look like chance and are the same each time."""

    def __init__(self, seed):
        self.state = seed

    def below(self, bound):
        self.state = (self.state * 6364136223846793005 + 1442695040888963407) % 2 ** 64
        return (self.state >> 33) % bound


def some_web(numbers, many):
    """A joined web: a tree of ties, and as many more as come."""
    pairs = [(numbers.below(place), place) for place in range(1, many)]
    others = [pair for pair in combinations(range(many), 2) if pair not in pairs]
    for _ in range(numbers.below(15 - len(pairs))):
        if others:
            pairs.append(others.pop(numbers.below(len(others))))
    most = 1 + numbers.below(20)
    return ("web", many, tuple(sorted([(one, other, 1 + numbers.below(most)) for one, other in pairs])))


def some_wishes(numbers, many):
    pairs = list(combinations(range(many), 2))
    chosen = [pairs.pop(numbers.below(len(pairs))) for _ in range(1 + numbers.below(min(6, len(pairs))))]
    return tuple(sorted([(one, other, 1 + numbers.below(20)) for one, other in chosen]))


def some_pairs(numbers, many):
    pairs = list(combinations(range(many), 2))
    return tuple(sorted([pairs.pop(numbers.below(len(pairs))) for _ in range(1 + numbers.below(min(6, len(pairs))))]))


def asked_by(numbers, pairs, most):
    """Wishes of the pairs, each at most so much."""
    return tuple([pair + (1 + numbers.below(most),) for pair in pairs])


def some_webs(count, seed=1):
    numbers = Numbers(seed)
    return [some_web(numbers, 2 + at % 7) for at in range(count)]


def some_traffic(count, seed=1):
    numbers = Numbers(seed)
    made = []
    for at in range(count):
        web = some_web(numbers, 2 + at % 7)
        made.append((web, some_wishes(numbers, web[1])))
    return made


def plain_cuts(many):
    """All cuts, by the numbers whose binary digits tell them."""
    return [tuple([place for place in range(1, many) if number >> place & 1]) for number in range(2, 2 ** many, 2)]


def plain_sum(rows, lot):
    return sum([much for one, other, much in rows if len({one, other} & set(lot)) == 1])


def plain_joined(places, links):
    """Whether places hang together by the links between them, by painting ever more of them alike."""
    colour = {place: place for place in places}
    for one, other in links:
        if one in colour and other in colour:
            old, new = colour[one], colour[other]
            colour = {place: new if kept == old else kept for place, kept in colour.items()}
    return len(set(colour.values())) == 1


def plain_ways(web, one, other):
    """All ways from one to other."""
    tied = {pair for tie in web[2] for pair in (tie[:2], tie[1::-1])}
    ended, open_ways = [], [(one,)]
    while open_ways:
        way = open_ways.pop()
        if way[-1] == other:
            ended.append(way)
        else:
            open_ways.extend([way + (place,) for place in range(web[1])
                              if place not in way and (way[-1], place) in tied])
    return ended


@functools.lru_cache(None)
def all_ways(web, one, other):
    """All ways of a web that is one, kept: they are looked at often."""
    return tuple(plain_ways(web, one, other))


def plain_least(web, one, other):
    """The sorted list of the least cuts of two places, and their room."""
    parting = [cut for cut in plain_cuts(web[1]) if (one in cut) != (other in cut)]
    room = min([plain_sum(web[2], cut) for cut in parting])
    return sorted([cut for cut in parting if plain_sum(web[2], cut) == room]), room


def twos(many):
    """All two unlike places, either way round."""
    return [(one, other) for one in range(many) for other in range(many) if one != other]


NOT_PLACES = [True, False, -1, 8, 9, 10 ** 39, None, "0", "", b"0", (), (0,), [0], {}, {0}, TOUCHY]
NOT_WEBS = STRANGE + [
    ["web", 2, ((0, 1, 1),)], ("wab", 2, ((0, 1, 1),)), (b"web", 2, ((0, 1, 1),)), ("web", 2), ("web", 2, ()),
    ("web", 2, ((0, 1, 1),), ()), ("web", 2, [(0, 1, 1)]), ("web", 2, ([0, 1, 1],)), ("web", 2, ((0, 1),)),
    ("web", 2, ((0, 1, 1, 1),)), ("web", 1, ((0, 1, 1),)), ("web", 1, ()), ("web", 0, ()), ("web", True, ((0, 1, 1),)),
    ("web", "2", ((0, 1, 1),)), ("web", 2, ((0, 1, 0),)), ("web", 2, ((0, 1, 21),)), ("web", 2, ((0, 1, -1),)),
    ("web", 2, ((0, 1, True),)), ("web", 2, ((False, 1, 1),)), ("web", 2, ((0, True, 1),)), ("web", 2, ((1, 0, 1),)),
    ("web", 2, ((0, 0, 1),)), ("web", 2, ((0, 2, 1),)), ("web", 2, ((-1, 1, 1),)), ("web", 2, ((0, 1, None),)),
    ("web", 2, ((0, 1, 1), (0, 1, 1))), ("web", 2, ((0, 1, 1), (0, 1, 2))), ("web", 3, ((0, 1, 1),)),
    ("web", 3, ((1, 2, 4), (0, 1, 3))), ("web", 4, ((0, 1, 1), (2, 3, 1))), ("web", 3, ((0, 1, 3), (1, 2, 4), (1, 2, 5))),
    ("web", 9, tuple([(0, place, 1) for place in range(1, 9)])), ("web", 3, {(0, 1, 1): 1, (1, 2, 1): 1}),
    ("web", 8, tuple(sorted(WHEEL[2] + ((1, 3, 1),)))), (("web",), 2, ((0, 1, 1),)), ("web", 2, (((0,), 1, 1),)),
    ("web", 8, tuple([(place, place + 1, 1) for place in range(6)])), "web", ("web", 2, "011")]
NOT_WISHES = STRANGE + [
    [(0, 1, 1)], ([0, 1, 1],), ((0, 1),), ((0, 1, 1, 1),), ((0, 1, 0),), ((0, 1, 21),), ((0, 1, True),), ((0, 1, -1),),
    ((False, 1, 1),), ((0, True, 1),), ((1, 0, 1),), ((1, 1, 1),), ((0, 8, 1),), ((-1, 1, 1),), ((0, 2, 1), (0, 1, 1)),
    ((0, 1, 1), (0, 1, 1)), ((0, 1, 1), (0, 1, 2)), tuple([(0, place, 1) for place in range(1, 8)]), ((0, 1, None),)]
NOT_CUTS = STRANGE + [(0,), (0, 1), [1], (2, 1), (1, 1), (-1,), (8,), (1, 8), (1, None), ("1",), (True, 2), ((1,),)]
NOT_INTEGERS = [None, True, False, "1", b"1", (), [1], (1,), {}, {1}, int, TOUCHY]
NOT_RATIOS = STRANGE + [5, (1,), (1, 2, 3), [1, 2], (2, 4), (0, 2), (0, 0), (1, 0), (1, -1), (-1, -2), (True, 1), (1, True),
                        (0, True), (False, 1), ("1", 2), (1, "2"), "1/2", {1: 2}]
NOT_ROWS = STRANGE[:4] + [(), [], [1], [1, 2], (True,), (1, False), (None,), (1, (2,)), ("1",), "12", b"12", {1: 2}, {1},
                          range(3), tuple(range(41)), TOUCHY, (TOUCHY,)]
NOT_RATIO_LISTS = STRANGE + [[(2, 4)], [(1, 2), None], [[1, 2]], (1, 2), {(1, 2): 1}, {(1, 2)}, [(1, 2)] * 41, [(1, True)],
                             ((1, 2),) * 41, [(1, 2), (1, 0)]]
NOT_TEXTS = [None, True, 0, 10 ** 39, b"places 2\ntie 0 1 1\n", b"1", (), ["1"], ("1",), {}, str, TOUCHY]
NOT_MANY = [1, 9, 0, -2, True, False, None, "3", b"3", 10 ** 39, (3,), [3], {}, TOUCHY]
# What makes no web of three places.
NOT_TIES = STRANGE + [[[0, 1, 1], [1, 2, 1]], [(0, 1, 1), [1, 2, 1]], [(0, 1, 1)], [(0, 1, 1), (1, 2)], [(0, 1, 1), (1, 2, 1, 1)],
                      [(0, 1, 1), (1, 3, 1)], [(0, 1, 1), (1, 2, 0)], [(0, 1, 1), (1, 2, 21)], [(0, 1, 1), (1, 2, True)],
                      [(0, True, 1), (1, 2, 1)], [(0, 1, 1), (1, 0, 1), (1, 2, 1)], [(0, 1, 1), (0, 1, 2), (1, 2, 1)],
                      [(0, 1, 1), (1, 2, 1), (2, 2, 1)], [(0, 1, 1), (1, 2, None)], [(0, 1, 1), None], [(0, 1, 1), "121"],
                      {(0, 1, 1): 0, (1, 2, 1): 0}, {(0, 1, 1), (1, 2, 1)}, [(0, 1, 1), (1, -2, 1)], "web",
                      [(TOUCHY, TOUCHY, TOUCHY)], [(0, 1, 1), (0, 1, None), (1, 2, 1)], [(None, 1, 1), (1, 2, 1)]]
NOT_ASKED = STRANGE + [[[0, 1, 1]], [(0, 1)], [(0, 1, 1, 1)], [(0, 1, 0)], [(0, 1, 21)], [(0, 1, True)], [(0, True, 1)],
                       [(1, 1, 1)], [(0, 8, 1)], [(-1, 1, 1)], [(0, 1, 1), (1, 0, 1)], [(0, 1, 1), (0, 1, 2)], [(0, 1, None)],
                       [(0, 1, 1), None], {(0, 1, 1)}, [(TOUCHY, TOUCHY, TOUCHY)], [(0, 1, 1), (0, 1, None)],
                       [(None, 1, 1)], [(0, place, 1) for place in range(1, 8)]]
# No orders of three places.
NOT_ORDERS = STRANGE + [[0, 1], [0, 1, 1], [0, 1, 3], [0, 1, 2, 2], [True, 0, 2], [0, True, 2], [-1, 0, 1], [0, 1, None],
                        [0, 1, "2"], {0: 0, 1: 1, 2: 2}, {0, 1, 2}, [[0], [1], [2]]]
# No lengths of a web with five ties.
NOT_LENGTHS = STRANGE + [[1, 9, 1, 2, 0], (1, 9, 1, 2), (1, 9, 1, 2, 0, 0), (1, 9, 1, 2, -1), (1, 9, 1, 2, True), (False, 9, 1, 2, 0),
                         (1, 9, 1, 2, 10 ** 12 + 1), (1, 9, None, 2, 0), (1, 9, "1", 2, 0), (1, 9, (1, 1), 2, 0), "19120",
                         (TOUCHY,) * 5, (1, 9, 1, 2, TOUCHY), {0: 1, 1: 9, 2: 1, 3: 2, 4: 0}, range(5)]
NOT_DISTANCES = STRANGE + [[[0]], [[0, 1]], [[0, 1], [1]], [[0, 1], [1, 0], [0, 0]], [[0, 1], [2, 0]], [[1, 1], [1, 0]], [[0, 1], [1, 1]],
                           [[0, -1], [-1, 0]], [[0, True], [True, 0]], [[False, 1], [1, 0]], [[0, 1], (1, None)], [[0, "1"], ["1", 0]],
                           [[0, 10 ** 14 + 1], [10 ** 14 + 1, 0]], [[0, 1, 3], [1, 0, 1], [3, 1, 0]], [[0, 1, 0], [1, 0, 0], [0, 0, 0]],
                           [[0] * 9] * 9, [[0, (1, 1)], [(1, 1), 0]], [{0: 0, 1: 1}, [1, 0]], {0: [0, 1], 1: [1, 0]}, [[0, 1], "10"],
                           [[0, TOUCHY], [TOUCHY, 0]], [[0, 1], TOUCHY], [range(2), [1, 0]], "01"]
# No sharings of three places.
NOT_SHARINGS = NOT_EMPTY + [
    [((1,), (1, 1))], (((1,), (0, 1)),), (((1,), (-1, 2)),), (((1,), (2, 4)),), (((1,), 1),), (((1,), (True, 1)),), (((0,), (1, 1)),),
    (((3,), (1, 1)),), (((2, 1), (1, 1)),), (((1, 1), (1, 1)),), (((), (1, 1)),), (([1], (1, 1)),), (((True,), (1, 1)),),
    (((1,), (1, 1)), ((1,), (1, 1))), (((1,), (1, 1)), ((1,), (2, 1))), (((2,), (1, 1)), ((1,), (1, 1))), (((1,), (1, 1), ()),),
    (((1,),),), ([(1,), (1, 1)],), ((1, (1, 1)),), (((1,), TOUCHY),), ((TOUCHY, (1, 1)),), (((1, 2, 3), (1, 1)),)]
# No plans of KITE for a wish of the places 0 and 3.
NOT_PLANS = NOT_EMPTY + [
    [((0, 1, 3), (1, 1))], (((0, 1, 3), (0, 1)),), (((0, 1, 3), (-1, 2)),), (((0, 1, 3), (2, 4)),), (((0, 1, 3), 1),),
    (((0, 1, 3), (True, 1)),), (((3, 1, 0), (1, 1)),), (((0, 1), (1, 1)),), (((0, 3), (1, 1)),), (((0, 1, 0, 2, 3), (1, 1)),),
    (([0, 1, 3], (1, 1)),), (((0, 1, 3), (1, 1)), ((0, 1, 3), (1, 1))), (((0, 1, 3), (1, 1)), ((0, 1, 3), (2, 1))),
    (((0, 2, 3), (1, 1)), ((0, 1, 3), (1, 1))), (((0, 1, 3), (1, 1), ()),), (((0, 1, 3),),), ([(0, 1, 3), (1, 1)],),
    (((0, True, 3), (1, 1)),), (((False, 1, 3), (1, 1)),), (((0, 1, 4), (1, 1)),), ((None, (1, 1)),), (((0, 1, 3), None),),
    ((TOUCHY, (1, 1)),), (((0, 1, 3), TOUCHY),), (((0, 1, 3), [1, 1]),), (((0,), (1, 1)),), (((), (1, 1)),), (((1, 3), (1, 1)),),
    {(0, 1, 3): (1, 1)}, {((0, 1, 3), (1, 1))}]


# No papers of KITE with a wish of 3, nor with one of 4, of the places 0 and 3.
NOT_PAPERS = STRANGE + [
    ["cut", (1, 2, 3)], ("cut", (3,), ()), ("cut",), ("cat", (1, 2, 3)), (b"cut", (1, 2, 3)), ("cut", (1,)), ("cut", (0,)), ("cut", [1, 2, 3]),
    ("cut", (True, 2, 3)), ("cut", None), ("cut", TOUCHY), ("plan", ()), ("plan", None), ("plan", TOUCHY), ("plan", [((0, 1, 3), (3, 1))]),
    ("plan", (((0, 1, 3), (3, 1)),)), ("plan", (((0, 1, 3), (1, 1)), ((0, 2, 3), (1, 1)))), ("lengths", (0,) * 5), ("lengths", (0, 0, 1, 0, 0)),
    ("lengths", [1, 1, 0, 0, 0]), ("lengths", (1, 1, 0, 0)), ("lengths", None), ("lengths", TOUCHY), ("plans", ()), (("cut",), (1, 2, 3)),
    ("share", (1, 1), (((0, 1, 3), (1, 1)), ((0, 2, 3), (2, 1))), (1, 1, 0, 0, 0))]
# No surpluses, no turnings of WIDE.
NOT_SURPLUSES = STRANGE + [[0] * 3, [0] * 5, (0,) * 3, [1, 0, 0, 0], [2, 0, -2, 1], [True, -1, 0, 0], [0, 0, 0, False], [1, -1, None, 0],
                           [0, 0, 0, "0"], {0: 0, 1: 0, 2: 0, 3: 0}, {0, 1, 2, 3}, "0000", range(4), [TOUCHY] * 4, [[0], [0], [0], [0]]]
NOT_TURNINGS = STRANGE + [[0, 0, 0, 0], (0,) * 3, (0,) * 5, (1, 0, 0, 0), (0, 0, 0, -1), (4, 0, 0, 0), (0, -4, 0, 0), (0, 0, False, 0),
                          (0, True, 0, 0), (0, 0, None, 0), (0, 0, 0, "0"), "0000", (TOUCHY,) * 4, (0, 0, (0,), 0), range(4)]
NOT_PAIRS = STRANGE + [[(0, 1)], ([0, 1],), ((0, 1, 1),), ((0,),), ((1, 0),), ((1, 1),), ((0, 8),), ((-1, 1),), ((0, True),), ((False, 1),),
                       ((0, 2), (0, 1)), ((0, 1), (0, 1)), tuple([(0, place) for place in range(1, 8)]), ((0, None),), ((0, "1"),),
                       {(0, 1)}, {(0, 1): 1}, ((0, 1), None), "01", ((TOUCHY, 1),), ((0, 1), TOUCHY), (0, 1)]


# No marks, no odd places, no lots, no ties with rooms, no prices and no tolls of KITE.
NOT_MARKS = STRANGE + [(0,), (1, 0), (0, 0), (0, 4), (-1, 0), [0, 1], (0, True), (False, 1), (0, None), (0, 1, 1), "01", (0, "1"), (0, 10 ** 39),
                       (TOUCHY, 1), (0, TOUCHY), {0, 1}, {0: 0, 1: 1}]
NOT_ODD_PLACES = NOT_EMPTY + [(0,), (1, 0), (0, 0), (0, 4), (-1, 0), [0, 1], (0, True), (False, 1), (0, None), (0, 1, 2), "01", (0, "1"), (0, 10 ** 39),
                              (TOUCHY, 1), (0, TOUCHY), {0, 1}, [], (0, 1, 2, 2)]
NOT_LOTS = NOT_EMPTY + [(1, 0), (0, 0), (0, 5), (5,), (-1, 0), (-1,), [0, 1], [], (0, True), (False, 1), (0, None), "01", (0, "1"), (10 ** 39,), (TOUCHY, 1),
                        (0, TOUCHY), {0, 1}]
NOT_ROOMY = NOT_EMPTY + [
    list(KITE[2]), ((0, 1, 0),), ((0, 1, 301),), ((1, 0, 1),), ((0, 0, 1),), ((0, 4, 1),), ((-1, 0, 1),), ((0, 1, True),), ((0, True, 1),), ((False, 1, 1),),
    ((0, 1),), ((0, 1, 1, 1),), ([0, 1, 1],), ((0, 2, 1), (0, 1, 1)), ((0, 1, 1), (0, 1, 1)), ((0, 1, 1), (0, 1, 2)), ((0, 1, None),), ((0, 1, TOUCHY),),
    ((0, 1, 10 ** 39),), "011", {(0, 1, 1)}]
NOT_PRICES = NOT_LENGTHS + [(1, 9, 1, 2, 1001), (1, 9, 1, 2, 10 ** 12), ((1, 1), (9, 1), (1, 1), (2, 1), (0, 1))]
GOOD_TOLLS = ((1, 2), (0, 1), (3, 1), (0, 1), (7, 3))
NOT_TOLLS = STRANGE + [list(GOOD_TOLLS), GOOD_TOLLS[:4], GOOD_TOLLS + ((0, 1),), (1, 2, 3, 4, 5), GOOD_TOLLS[:4] + ((-1, 2),), GOOD_TOLLS[:4] + ((2, 4),),
                       GOOD_TOLLS[:4] + ((True, 1),), GOOD_TOLLS[:4] + ([0, 1],), GOOD_TOLLS[:4] + (None,), GOOD_TOLLS[:4] + (TOUCHY,),
                       (TOUCHY,) * 5] + [GOOD_TOLLS[:4] + (value,) for value in NOT_RATIOS]
NOT_PACKINGS = NOT_EMPTY + [
    [((3,), (1, 2))], (((3,), (0, 1)),), (((3,), (-1, 2)),), (((3,), (2, 4)),), (((3,), 1),), (((1,), (1, 2)),), (((3,), (True, 2)),), (((0,), (1, 2)),),
    (((3,), (1, 2), ()),), (((3,),),), ([(3,), (1, 2)],), (([3], (1, 2)),), (((4,), (1, 2)),), (((3,), TOUCHY),), ((TOUCHY, (1, 2)),), (((3,), None),),
    ((None, (1, 2)),), (((3,), (1, 4)), ((3,), (1, 2))), (((3,), (1, 1)), ((1, 3), (1, 1))), (((3,), (4, 1)),), (((), (1, 2)),)]
NOT_RECORDS = STRANGE + ["places 2\ntie 0 1 1\nwish 0 1 2\ncut 1\ncheck 968554\n", "places 2\ntie 0 1 1\nwish 0 1 2\ncut 1\n", "check 0\n", "cut 1\ncheck 0\n", b"check 0\n",
                         ["places 2\ntie 0 1 1\nwish 0 1 2\ncut 1\ncheck 968555\n"]]
NOT_SIGNS = NOT_TEXTS + ["A", "a;b", "tie 0 1\t2", "#", "1,2", "a\r", "%", "~", "places 2.", chr(233), "0" * 10 + "_"]


def fraction(ratio):
    return Fraction(ratio[0], ratio[1])


def ratio_of(number):
    """A number as the RATIO that is returned for it."""
    return (Fraction(number).numerator, Fraction(number).denominator)


@functools.lru_cache(None)
def steps_of(way):
    """The list of the pairs of places that are side by side in a way, the lesser one first."""
    return [(min(step), max(step)) for step in zip(way, way[1:])]


def plain_length(web, lengths, way):
    told = {tie[:2]: length for tie, length in zip(web[2], lengths)}
    return sum([told[step] for step in steps_of(way)])


def plain_distance(web, lengths, one, other):
    """The length of the shortest of all ways."""
    if one == other:
        return 0
    told = {tie[:2]: length for tie, length in zip(web[2], lengths)}
    return min([sum([told[step] for step in steps_of(way)]) for way in all_ways(web, one, other)])


def plain_had(web, lengths):
    return sum([tie[2] * length for tie, length in zip(web[2], lengths)])


def plain_spent(web, wishes, lengths):
    return sum([wish * plain_distance(web, lengths, one, other) for one, other, wish in wishes])


def plain_loads(web, plan):
    return [sum([fraction(ratio) for way, ratio in plan if tie[:2] in steps_of(way)], Fraction(0)) for tie in web[2]]


def plain_got(wishes, plan):
    return [sum([fraction(ratio) for way, ratio in plan if (way[0], way[-1]) == wish[:2]], Fraction(0)) for wish in wishes]


def does_fit(web, plan):
    return all([load <= tie[2] for load, tie in zip(plain_loads(web, plan), web[2])])


def does_serve(wishes, plan):
    return plain_got(wishes, plan) == [wish[2] for wish in wishes]


def is_sound(web, wishes, plan):
    """Whether a value is a plan that was made well, by a look at all ways."""
    ways = [way for wish in wishes for way in all_ways(web, wish[0], wish[1])]
    sound = [type(row) is tuple and len(row) == 2 and row[0] in ways for row in plan]
    sound += [ratio_of(fraction(ratio)) == ratio and ratio[0] > 0 for _, ratio in plan]
    told = [way for way, _ in plan]
    return type(plan) is tuple and all(sound) and told == sorted(set(told))


def some_lengths(numbers, web, most):
    return tuple([numbers.below(most + 1) for _ in web[2]])


# Flat webs: a kite, two places, a web that falls apart at its place 1, and all four places tied to each other.
FLAT_KITE = ("flat", KITE, ((1, 2), (0, 3, 2), (0, 1, 3), (1, 2)), (0, 1, 3, 2))
FLAT_PAIR = ("flat", ("web", 2, ((0, 1, 3),)), ((1,), (0,)), (0, 1))
FLAT_BOW = ("flat", ("web", 6, ((0, 1, 1), (0, 2, 2), (1, 2, 3), (1, 3, 2), (1, 4, 1), (3, 4, 2), (4, 5, 3))),
            ((1, 2), (0, 3, 4, 2), (0, 1), (1, 4), (1, 3, 5), (4,)), (0, 1, 3, 4, 5, 4, 1, 2))
FLAT_FOUR = ("flat", ("web", 4, ((0, 1, 1), (0, 2, 2), (0, 3, 3), (1, 2, 4), (1, 3, 5), (2, 3, 6))),
             ((1, 2, 3), (0, 3, 2), (0, 1, 3), (0, 2, 1)), (0, 2, 1))
# No flat webs, around FLAT_KITE.
NOT_FLATS = STRANGE + [
    list(FLAT_KITE), FLAT_KITE[:3], FLAT_KITE + ((),), ("flut",) + FLAT_KITE[1:], (b"flat",) + FLAT_KITE[1:], (TOUCHY,) + FLAT_KITE[1:],
    ("flat", TOUCHY) + FLAT_KITE[2:], FLAT_KITE[:2] + (TOUCHY,) + FLAT_KITE[3:], FLAT_KITE[:3] + (TOUCHY,),
    FLAT_KITE[:3] + ((TOUCHY,) * 4,), FLAT_KITE[:3] + ((),), FLAT_KITE[:3] + ([0, 1, 3, 2],), FLAT_KITE[:3] + ((1, 3, 2, 0),),
    FLAT_KITE[:3] + ((0, 2, 3, 1),), FLAT_KITE[:3] + ((False, 1, 3, 2),), FLAT_KITE[:3] + ((0, True, 3, 2),), FLAT_KITE[:3] + (None,),
    FLAT_KITE[:2] + ([(1, 2), (0, 3, 2), (0, 1, 3), (1, 2)],) + FLAT_KITE[3:], FLAT_KITE[:2] + (((1, 2), (0, 3, 2), (0, 1, 3)),) + FLAT_KITE[3:],
    FLAT_KITE[:2] + (((2, 1), (0, 3, 2), (0, 1, 3), (1, 2)),) + FLAT_KITE[3:],
    FLAT_KITE[:2] + (((1, 2), (0, 2, 3), (0, 1, 3), (1, 2)),) + FLAT_KITE[3:],
    FLAT_KITE[:2] + (((1, 2), (0, 3, 2), (0, 1, 3), (1,)),) + FLAT_KITE[3:], FLAT_KITE[:2] + (((1, 2), (0, 3, 2), (0, 1, 3), (1, 2, 2)),) + FLAT_KITE[3:],
    FLAT_KITE[:2] + (((1, 2), (0, 3, 2), (0, 1, 3), (1, 0)),) + FLAT_KITE[3:], FLAT_KITE[:2] + (((1, 2), (0, 3, 2), (0, 1, 3), [1, 2]),) + FLAT_KITE[3:],
    FLAT_KITE[:2] + (((1, 2), (False, 3, 2), (0, 1, 3), (1, 2)),) + FLAT_KITE[3:], FLAT_KITE[:2] + (((1, 2), (0, 3, 2), (0, 1, 3), TOUCHY),) + FLAT_KITE[3:],
    FLAT_KITE[:2] + (((1, 2), (0, 3, 2), (0, 1, 3), (1, TOUCHY)),) + FLAT_KITE[3:], FLAT_KITE[:2] + (((1, 2), (0, 3, 2), (0, 1, 3), (1, None)),) + FLAT_KITE[3:],
    ("flat", LINE) + FLAT_KITE[2:], ("flat", ["web"], (), ()), ("flat", FLAT_KITE, (), ())]
# No points of KITE, and points that do not draw it.
GOOD_POINTS = ((0, 0), (0, 2), (2, 0), (2, 2))
NOT_POINTS = STRANGE + [
    list(GOOD_POINTS), GOOD_POINTS[:3], GOOD_POINTS + ((3, 3),), ((0, 0), (0, 2), (2, 0), [2, 2]), ((0, 0), (0, 2), (2, 0), (2, 2, 2)),
    ((0, 0), (0, 2), (2, 0), (2,)), ((0, 0), (0, 2), (2, 0), (2, True)), ((False, 0), (0, 2), (2, 0), (2, 2)), ((0, 0), (0, 2), (2, 0), (2, None)),
    ((0, 0), (0, 2), (2, 0), (2, 10001)), ((0, 0), (0, 2), (2, 0), (-10001, 2)), ((0, 0), (0, 2), (2, 0), TOUCHY), ((0, 0), (0, 2), (2, 0), (2, TOUCHY)),
    ((0, 0), (0, 2), (2, 0), (0, 0)), ((0, 0), (0, 2), (2, 0), (2, 0)), ((0, 0), (0, 2), (2, 0), (1, 1)), ((1, 1), (0, 2), (2, 0), (2, 2)),
    ((0, 0), (2, 0), (4, 0), (1, 3)), ((0, 0), (0, 2), (2, 2), (2, 0)), ((0, 0), (4, 0), (1, 3), (-1, 1)), "0000", ((0, 0),) * 4]
# No circuits of FLAT_KITE.
NOT_CIRCUITS = STRANGE + [[0, 1], (0,), (2,), (1, 0), (0, 0), (0, 3), (0, 1, 2), (0, 4, 2), (2, 0, 3), (0, 3, 2), (0, 2, 3, 4), (5,), (0, 5), (-1, 0),
                          (False, 1), (0, True), (0, None), (0, 1, 3, 4), "01", (TOUCHY, 1), (0, TOUCHY)]
NOT_STEPS = NOT_PLACES[:3] + [4, 9, 10 ** 39, None, "0", "", b"0", (), (0,), [0], {}, {0}, TOUCHY]


def plain_meet(a, b, c, d):
    """Whether two straight lines, from a to b and from c to d, have a point in common, by reckoning where it would be."""
    u, v, w = (b[0] - a[0], b[1] - a[1]), (d[0] - c[0], d[1] - c[1]), (c[0] - a[0], c[1] - a[1])
    under = u[0] * v[1] - u[1] * v[0]
    if under != 0:
        s, t = Fraction(w[0] * v[1] - w[1] * v[0], under), Fraction(w[0] * u[1] - w[1] * u[0], under)
        return 0 <= s <= 1 and 0 <= t <= 1
    if w[0] * u[1] != w[1] * u[0]:
        return False
    line, other = sorted([a, b]), sorted([c, d])
    return line[0] <= other[1] and other[0] <= line[1]


def does_plainly_draw(web, points):
    if len(set(points)) < web[1]:
        return False
    pairs = [tie[:2] for tie in web[2]]
    for one, other in pairs:
        for place in range(web[1]):
            if place not in (one, other) and plain_meet(points[one], points[other], points[place], points[place]):
                return False
    return not any([plain_meet(points[p[0]], points[p[1]], points[q[0]], points[q[1]])
                    for p, q in combinations(pairs, 2) if not set(p) & set(q)])


def some_points(numbers, many, wide):
    """So many unlike points."""
    points = []
    while len(points) < many:
        point = (numbers.below(wide), numbers.below(wide))
        if point not in points:
            points.append(point)
    return tuple(points)


def some_drawn(numbers, many, wide, most):
    """A web and points that draw it, with rooms up to most."""
    points = some_points(numbers, many, wide)
    pairs, ties = list(combinations(range(many), 2)), []
    while pairs:
        pair = pairs.pop(numbers.below(len(pairs)))
        if does_plainly_draw(("web", many, tuple(ties + [pair])), points):
            ties.append(pair)
    spare = numbers.below(len(ties) - many + 2)
    for pair in list(ties):
        left = [tie for tie in ties if tie != pair]
        if (spare > 0 or len(ties) > 14) and plain_joined(list(range(many)), left):
            ties, spare = left, spare - 1
    return ("web", many, tuple(sorted([pair + (1 + numbers.below(most),) for pair in ties]))), points


def plain_faces(rounds):
    """The sorted list of the rings of steps, each told by the least of all its turnings."""
    behind = {}
    for other, circle in enumerate(rounds):
        for at, one in enumerate(circle):
            behind[(one, other)] = (other, (circle + circle)[at + 1])
    faces = []
    while behind:
        ring, step = [], min(behind)
        while step in behind:
            ring.append(step[0])
            step = behind.pop(step)
        faces.append(min([tuple(ring[at:] + ring[:at]) for at in range(len(ring))]))
    return sorted(faces)


def plain_rounds(web, points):
    """Rounds by the angles at which ties stand."""
    rounds = []
    for place in range(web[1]):
        ends = sorted([one + other - place for one, other, _ in web[2] if place in (one, other)])
        angle = {end: math.atan2(points[end][1] - points[place][1], points[end][0] - points[place][0]) for end in ends}
        rounds.append(tuple(sorted(ends, key=lambda end: (angle[ends[0]] - angle[end]) % (2 * math.pi) if end != ends[0] else -1)))
    return tuple(rounds)


def some_flats(count, seed=1, most=6):
    """Flat webs of all sizes, drawn, with any of their faces as the rim, most often that of the most places."""
    numbers = Numbers(seed)
    made = []
    for at in range(count):
        web, points = some_drawn(numbers, 2 + at % 7, 3 + numbers.below(4), most)
        rounds = plain_rounds(web, points)
        faces = plain_faces(rounds)
        rim = faces[numbers.below(len(faces))] if at % 3 == 0 else max(faces, key=len)
        made.append(("flat", web, rounds, rim))
    return made


def some_rim_traffic(count, seed=1, most=6):
    """Flat webs with wishes at their rims."""
    numbers = Numbers(seed)
    made = []
    for flat in some_flats(count, seed + 1, most):
        places = sorted(set(flat[3]))
        pairs = list(combinations(places, 2))
        chosen = [pairs.pop(numbers.below(len(pairs))) for _ in range(min(len(pairs), 1 + numbers.below(4)))]
        made.append((flat, asked_by(numbers, sorted(chosen), 1 + numbers.below(most))))
    return made
