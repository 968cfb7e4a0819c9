"""What the tests have in common: webs made without chance, plain looks at them, and values of any kind."""

from itertools import combinations


class Touchy:
    """A value that bears no question but what kind it is of."""

    def _refuse(self, *told):
        raise AssertionError("a value of any kind was asked more than its kind")

    __eq__ = __ne__ = __lt__ = __le__ = __gt__ = __ge__ = _refuse
    __hash__ = __len__ = __iter__ = __bool__ = __contains__ = __getitem__ = __int__ = __index__ = _refuse


def deep(levels):
    value = ()
    for _ in range(levels):
        value = (value,)
    return value


TOUCHY = Touchy()
STRANGE = [None, True, False, -1, 10 ** 39, "", "web", "table", "012", b"", b"web", (), [], {}, set(), {0: 1}, {0, 1},
           frozenset(), object(), int, len, range(3), TOUCHY, (TOUCHY,), [TOUCHY], (TOUCHY,) * 2, (TOUCHY,) * 3,
           (TOUCHY,) * 4, [TOUCHY] * 3, ("web", TOUCHY, TOUCHY), ("web", 3, TOUCHY), ("web", 3, (TOUCHY,)),
           ("table", TOUCHY, TOUCHY, TOUCHY), (None,), ([],), ({},), (set(),), ("",), (True,), (False, True),
           (1, None), (None, 1), ((),), ((), ()), deep(50), [[]], "places 2\ntie 0 1 1\n"]

# Two places, both ways round, and webs of all sizes; what is asked of them stands beside.
LEAST = ("web", 2, ((0, 1, 1),))
LINE = ("web", 3, ((0, 1, 3), (1, 2, 4)))
RING = ("web", 4, ((0, 1, 2), (0, 3, 1), (1, 2, 1), (2, 3, 2)))
KITE = ("web", 4, ((0, 1, 2), (0, 2, 1), (1, 2, 1), (1, 3, 1), (2, 3, 2)))
BOTH = ("web", 5, ((0, 2, 1), (0, 3, 1), (0, 4, 1), (1, 2, 1), (1, 3, 1), (1, 4, 1)))
WHEEL = ("web", 8, ((0, 1, 3), (0, 2, 20), (0, 3, 1), (0, 4, 2), (0, 5, 7), (0, 6, 1), (0, 7, 4),
                    (1, 2, 5), (1, 7, 1), (2, 3, 9), (3, 4, 1), (4, 5, 2), (5, 6, 20), (6, 7, 3)))


class Numbers:
    """INTEGERS that look like chance and are the same each time."""

    def __init__(self, seed):
        self.state = seed

    def below(self, bound):
        self.state = (self.state * 6364136223846793005 + 1442695040888963407) % 2 ** 64
        return (self.state >> 33) % bound


def some_web(numbers, many):
    """A joined web: a tree of ties, and as many more as come."""
    pairs = [(numbers.below(place), place) for place in range(1, many)]
    others = [pair for pair in combinations(range(many), 2) if pair not in pairs]
    for _ in range(numbers.below(15 - len(pairs))):
        if others:
            pairs.append(others.pop(numbers.below(len(others))))
    most = 1 + numbers.below(20)
    return ("web", many, tuple(sorted([(one, other, 1 + numbers.below(most)) for one, other in pairs])))


def some_wishes(numbers, many):
    pairs = list(combinations(range(many), 2))
    chosen = [pairs.pop(numbers.below(len(pairs))) for _ in range(1 + numbers.below(min(6, len(pairs))))]
    return tuple(sorted([(one, other, 1 + numbers.below(20)) for one, other in chosen]))


def some_webs(count, seed=1):
    numbers = Numbers(seed)
    return [some_web(numbers, 2 + at % 7) for at in range(count)]


def some_traffic(count, seed=1):
    numbers = Numbers(seed)
    made = []
    for at in range(count):
        web = some_web(numbers, 2 + at % 7)
        made.append((web, some_wishes(numbers, web[1])))
    return made


def plain_cuts(many):
    """All cuts, by the numbers whose binary digits tell them."""
    return [tuple([place for place in range(1, many) if number >> place & 1]) for number in range(2, 2 ** many, 2)]


def plain_sum(rows, lot):
    return sum([much for one, other, much in rows if len({one, other} & set(lot)) == 1])


def plain_joined(places, links):
    """Whether places hang together by the links between them, by painting ever more of them alike."""
    colour = {place: place for place in places}
    for one, other in links:
        if one in colour and other in colour:
            old, new = colour[one], colour[other]
            colour = {place: new if kept == old else kept for place, kept in colour.items()}
    return len(set(colour.values())) == 1


def plain_ways(web, one, other):
    """All ways from one to other."""
    tied = {pair for tie in web[2] for pair in (tie[:2], tie[1::-1])}
    ended, open_ways = [], [(one,)]
    while open_ways:
        way = open_ways.pop()
        if way[-1] == other:
            ended.append(way)
        else:
            open_ways.extend([way + (place,) for place in range(web[1])
                              if place not in way and (way[-1], place) in tied])
    return ended


def plain_least(web, one, other):
    """The sorted list of the least cuts of two places, and their room."""
    parting = [cut for cut in plain_cuts(web[1]) if (one in cut) != (other in cut)]
    room = min([plain_sum(web[2], cut) for cut in parting])
    return sorted([cut for cut in parting if plain_sum(web[2], cut) == room]), room


def twos(many):
    """All two unlike places, either way round."""
    return [(one, other) for one in range(many) for other in range(many) if one != other]


NOT_PLACES = [True, False, -1, 8, 9, 10 ** 39, None, "0", "", b"0", (), (0,), [0], {}, {0}, TOUCHY]
NOT_WEBS = STRANGE + [
    ["web", 2, ((0, 1, 1),)], ("wab", 2, ((0, 1, 1),)), (b"web", 2, ((0, 1, 1),)), ("web", 2), ("web", 2, ()),
    ("web", 2, ((0, 1, 1),), ()), ("web", 2, [(0, 1, 1)]), ("web", 2, ([0, 1, 1],)), ("web", 2, ((0, 1),)),
    ("web", 2, ((0, 1, 1, 1),)), ("web", 1, ((0, 1, 1),)), ("web", 1, ()), ("web", 0, ()), ("web", True, ((0, 1, 1),)),
    ("web", "2", ((0, 1, 1),)), ("web", 2, ((0, 1, 0),)), ("web", 2, ((0, 1, 21),)), ("web", 2, ((0, 1, -1),)),
    ("web", 2, ((0, 1, True),)), ("web", 2, ((False, 1, 1),)), ("web", 2, ((0, True, 1),)), ("web", 2, ((1, 0, 1),)),
    ("web", 2, ((0, 0, 1),)), ("web", 2, ((0, 2, 1),)), ("web", 2, ((-1, 1, 1),)), ("web", 2, ((0, 1, None),)),
    ("web", 2, ((0, 1, 1), (0, 1, 1))), ("web", 2, ((0, 1, 1), (0, 1, 2))), ("web", 3, ((0, 1, 1),)),
    ("web", 3, ((1, 2, 4), (0, 1, 3))), ("web", 4, ((0, 1, 1), (2, 3, 1))), ("web", 3, ((0, 1, 3), (1, 2, 4), (1, 2, 5))),
    ("web", 9, tuple([(0, place, 1) for place in range(1, 9)])), ("web", 3, {(0, 1, 1): 1, (1, 2, 1): 1}),
    ("web", 8, tuple(sorted(WHEEL[2] + ((1, 3, 1),)))), (("web",), 2, ((0, 1, 1),)), ("web", 2, (((0,), 1, 1),)),
    ("web", 8, tuple([(place, place + 1, 1) for place in range(6)])), "web", ("web", 2, "011")]
NOT_WISHES = STRANGE + [
    [(0, 1, 1)], ([0, 1, 1],), ((0, 1),), ((0, 1, 1, 1),), ((0, 1, 0),), ((0, 1, 21),), ((0, 1, True),), ((0, 1, -1),),
    ((False, 1, 1),), ((0, True, 1),), ((1, 0, 1),), ((1, 1, 1),), ((0, 8, 1),), ((-1, 1, 1),), ((0, 2, 1), (0, 1, 1)),
    ((0, 1, 1), (0, 1, 1)), ((0, 1, 1), (0, 1, 2)), tuple([(0, place, 1) for place in range(1, 8)]), ((0, 1, None),)]
NOT_CUTS = STRANGE + [(0,), (0, 1), [1], (2, 1), (1, 1), (-1,), (8,), (1, 8), (1, None), ("1",), (True, 2), ((1,),)]
NOT_INTEGERS = [None, True, False, "1", b"1", (), [1], (1,), {}, {1}, int, TOUCHY]
NOT_RATIOS = STRANGE + [5, (1,), (1, 2, 3), [1, 2], (2, 4), (0, 2), (0, 0), (1, 0), (1, -1), (-1, -2), (True, 1), (1, True),
                        (0, True), (False, 1), ("1", 2), (1, "2"), "1/2", {1: 2}]
NOT_ROWS = STRANGE[:4] + [(), [], [1], [1, 2], (True,), (1, False), (None,), (1, (2,)), ("1",), "12", b"12", {1: 2}, {1},
                          range(3), tuple(range(41)), TOUCHY, (TOUCHY,)]
NOT_RATIO_LISTS = STRANGE + [[(2, 4)], [(1, 2), None], [[1, 2]], (1, 2), {(1, 2): 1}, {(1, 2)}, [(1, 2)] * 41, [(1, True)],
                             ((1, 2),) * 41, [(1, 2), (1, 0)]]
NOT_TEXTS = [None, True, 0, 10 ** 39, b"places 2\ntie 0 1 1\n", b"1", (), ["1"], ("1",), {}, str, TOUCHY]
NOT_MANY = [1, 9, 0, -2, True, False, None, "3", b"3", 10 ** 39, (3,), [3], {}, TOUCHY]
# What makes no web of three places.
NOT_TIES = STRANGE + [[[0, 1, 1], [1, 2, 1]], [(0, 1, 1), [1, 2, 1]], [(0, 1, 1)], [(0, 1, 1), (1, 2)], [(0, 1, 1), (1, 2, 1, 1)],
                      [(0, 1, 1), (1, 3, 1)], [(0, 1, 1), (1, 2, 0)], [(0, 1, 1), (1, 2, 21)], [(0, 1, 1), (1, 2, True)],
                      [(0, True, 1), (1, 2, 1)], [(0, 1, 1), (1, 0, 1), (1, 2, 1)], [(0, 1, 1), (0, 1, 2), (1, 2, 1)],
                      [(0, 1, 1), (1, 2, 1), (2, 2, 1)], [(0, 1, 1), (1, 2, None)], [(0, 1, 1), None], [(0, 1, 1), "121"],
                      {(0, 1, 1): 0, (1, 2, 1): 0}, {(0, 1, 1), (1, 2, 1)}, [(0, 1, 1), (1, -2, 1)], "web",
                      [(TOUCHY, TOUCHY, TOUCHY)], [(0, 1, 1), (0, 1, None), (1, 2, 1)], [(None, 1, 1), (1, 2, 1)]]
NOT_ASKED = STRANGE + [[[0, 1, 1]], [(0, 1)], [(0, 1, 1, 1)], [(0, 1, 0)], [(0, 1, 21)], [(0, 1, True)], [(0, True, 1)],
                       [(1, 1, 1)], [(0, 8, 1)], [(-1, 1, 1)], [(0, 1, 1), (1, 0, 1)], [(0, 1, 1), (0, 1, 2)], [(0, 1, None)],
                       [(0, 1, 1), None], {(0, 1, 1)}, [(TOUCHY, TOUCHY, TOUCHY)], [(0, 1, 1), (0, 1, None)],
                       [(None, 1, 1)], [(0, place, 1) for place in range(1, 8)]]
# No orders of three places.
NOT_ORDERS = STRANGE + [[0, 1], [0, 1, 1], [0, 1, 3], [0, 1, 2, 2], [True, 0, 2], [0, True, 2], [-1, 0, 1], [0, 1, None],
                        [0, 1, "2"], {0: 0, 1: 1, 2: 2}, {0, 1, 2}, [[0], [1], [2]]]
