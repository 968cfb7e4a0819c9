"""A desk: what is kept, claims, papers, deeds, questions: [171] to [174]."""

import copy
import unittest

from samples import BOTH, KITE, NOT_TEXTS, NOT_WEBS, STRANGE, TOUCHY, Numbers, some_traffic
from test_commands import LINES, NAMES
from test_fourplaces import over
from wishways.cuts import least_slack
from wishways.deciding import is_served
from wishways.desk import Desk, begun
from wishways.errors import (CommandFailed, InvalidCommand, InvalidDeeds, InvalidOrder, InvalidPaper, InvalidPlace, InvalidRows, InvalidTies, LabelTaken,
                             NameTaken, NothingToRedo, NothingToUndo, NotTied, NoWish, TooMany, UnknownLabel, UnknownName)
from wishways.kinds import kind_of
from wishways.leastcuts import least_cut, least_room
from wishways.printer import traffic_text
from wishways.served import share
from wishways.webs import made_web, made_wishes, renumbered, room_between

LINE = (("web", 3, ((0, 1, 3), (1, 2, 4))), ((0, 2, 4),))
NO_NAMES = NAMES + NOT_TEXTS + [[], ["p"], {}, ("p",), "q"]
PAIR = "traffic {} places 2; tie 0 1 3; wish 0 1 2"
CONTRARY = dict([("served", "barred"), ("barred", "served"), ("roomy", "crowded"), ("crowded", "roomy"), ("good", "bad"), ("bad", "good")])


def lines_of(web, wishes):
    return "; ".join(traffic_text(web, wishes).split("\n")[:-1])


def some_desk():
    desk = Desk()
    desk.do_all([f"traffic p {LINES}", "claim s served p", "claim r roomy p"])
    return desk


def is_plainly(word, web, wishes):
    told = {"served": is_served(web, wishes), "roomy": over(web, wishes) == [],
            "good": kind_of(tuple([wish[:2] for wish in wishes]))[0] in ("hubs", "four", "ring")}
    return told[word] if word in told else not told[CONTRARY[word]]


class PlainDesk:
    """What the document tells, replayed from the first deed on for each answer."""

    def __init__(self):
        self.done, self.back = [], []

    def replayed(self, lines):
        kept, claims = {}, {}
        for line in lines:
            parts = line.split(" ")
            numbers = [int(part) for part in parts[2:] if part.isdigit()]
            if parts[0] == "traffic":
                rows = [row.split(" ") for row in line.split(" ", 2)[2].split("; ")]
                told = {word: [tuple([int(part) for part in row[1:]]) for row in rows if row[0] == word] for word in ("places", "tie", "wish")}
                kept[parts[1]] = (made_web(told["places"][0][0], told["tie"]), made_wishes(told["wish"]))
            elif parts[0] in ("tie", "untie", "wish", "unwish"):
                web, wishes = kept[parts[1]]
                rows = [row for row in (web[2] if "tie" in parts[0] else wishes) if set(row[:2]) != set(numbers[:2])] + [tuple(numbers)] * (len(numbers) == 3)
                kept[parts[1]] = (made_web(web[1], rows), wishes) if "tie" in parts[0] else (web, made_wishes(rows))
            elif parts[0] == "renumber":
                kept[parts[1]] = renumbered(*kept[parts[1]], [int(part) for part in parts[2].split(",")])
            elif parts[0] == "copy":
                kept[parts[1]] = kept[parts[2]]
            elif parts[0] == "drop":
                del kept[parts[1]]
            elif parts[0] == "claim":
                claims[parts[1]] = (parts[2], parts[3])
            else:
                del claims[parts[1]]
        return kept, claims

    def states(self, lines):
        kept, claims = self.replayed(lines)
        return {label: "gone" if name not in kept else "true" if is_plainly(word, *kept[name]) else "false" for label, (word, name) in claims.items()}

    def do(self, command):
        if command == "undo":
            self.back.append(self.done.pop())
            return self.back[-1]
        if command == "redo":
            self.done.append(self.back.pop())
            return self.done[-1]
        before = self.states(self.done)
        self.done, self.back = self.done + [command], []
        after = self.states(self.done)
        return ", ".join([f"{label} {after[label]}" for label in sorted(after) if after[label] != before.get(label)]) or "-"


class Deeds(unittest.TestCase):
    def test_171_at_first_nothing(self):
        desk = Desk()
        self.assertEqual([desk.names(), desk.labels(), desk.many_deeds(), desk.lines(), desk.do("names"), desk.do("states")], [[], [], 0, [], "-", "-"])

    def test_171_kept(self):
        desk = some_desk()
        self.assertEqual([desk.names(), desk.labels(), desk.kept("p"), desk.many_deeds()], [["p"], ["r", "s"], LINE, 3])
        desk.do("copy a p")
        self.assertEqual([desk.names(), desk.kept("a"), desk.kept(name="p")], [["a", "p"], LINE, LINE])
        for value in NO_NAMES + STRANGE:
            with self.assertRaises(UnknownName) as caught:
                desk.kept(value)
            self.assertIs(caught.exception.value, value)

    def test_174_each_deed(self):
        desk = Desk()
        self.assertEqual(desk.do(f"traffic p {LINES}"), "-")
        for line, web, wishes in [
                ("tie p 2 0 5", ("web", 3, ((0, 1, 3), (0, 2, 5), (1, 2, 4))), LINE[1]), ("tie p 0 2 6", ("web", 3, ((0, 1, 3), (0, 2, 6), (1, 2, 4))), LINE[1]),
                ("untie p 1 0", ("web", 3, ((0, 2, 6), (1, 2, 4))), LINE[1]), ("wish p 1 0 20", ("web", 3, ((0, 2, 6), (1, 2, 4))), ((0, 1, 20), (0, 2, 4))),
                ("wish p 2 0 1", ("web", 3, ((0, 2, 6), (1, 2, 4))), ((0, 1, 20), (0, 2, 1))), ("unwish p 1 0", ("web", 3, ((0, 2, 6), (1, 2, 4))), ((0, 2, 1),)),
                ("renumber p 2,0,1", ("web", 3, ((0, 1, 6), (0, 2, 4))), ((0, 1, 1),))]:
            self.assertEqual(desk.do(line), "-")
            self.assertEqual(desk.kept("p"), (web, wishes))
        self.assertEqual([desk.do("copy q p"), desk.kept("q") == desk.kept("p"), desk.do("drop p"), desk.names()], ["-", True, "-", ["q"]])
        self.assertEqual([desk.do("claim k good q"), desk.do("claimed k"), desk.do("forget k"), desk.labels()], ["k true", "good q", "-", []])
        self.assertEqual(len(desk.lines()), desk.many_deeds())
        self.assertEqual(desk.lines()[:2] + desk.lines()[-1:], [f"traffic p {LINES}", "tie p 2 0 5", "forget k"])

    def test_173_what_changed(self):
        desk = some_desk()
        self.assertEqual([desk.do("states"), desk.do("claim a crowded p"), desk.do("claim b barred p"), desk.do("claim c good p"), desk.do("claim d bad p")],
                         ["r false, s false", "a true", "b true", "c true", "d false"])
        self.assertEqual(desk.do("wish p 0 2 3"), "a false, b false, r true, s true")
        self.assertEqual([desk.do("wish p 0 2 2"), desk.do("copy q p"), desk.do("forget a")], ["-", "-", "-"])
        self.assertEqual(desk.do("drop p"), "b gone, c gone, d gone, r gone, s gone")
        self.assertEqual([desk.do("state s"), desk.do("states"), desk.do("claimed s")], ["gone", "b gone, c gone, d gone, r gone, s gone", "served p"])
        self.assertEqual(desk.do(f"traffic p {LINES}"), "b true, c true, d false, r false, s false")
        self.assertEqual([desk.do("drop q"), desk.do("forget s"), desk.do("claim s barred p")], ["-", "-", "s true"])

    def test_172_states_of_barred_without_a_cut(self):
        wishes = ((0, 1, 1), (2, 3, 1), (2, 4, 1), (3, 4, 1))
        desk = begun(["traffic p " + lines_of(BOTH, wishes)] + [f"claim {word} {word} p" for word in CONTRARY])
        self.assertEqual(desk.do("states"), "bad true, barred true, crowded false, good false, roomy true, served false")
        self.assertEqual([desk.do("state roomy"), desk.do("kind p"), desk.do("share p"), desk.do("over p")], ["true", "beside", "3/4", "-"])
        with self.assertRaises(InvalidPaper):
            desk.attach("served", ("cut", (1, 2)))
        self.assertEqual([desk.attach("served", ("lengths", (1,) * 6)), desk.fits("served"), desk.fits("barred")], [None, True, False])

    def test_174_undo_and_redo(self):
        desk = some_desk()
        with self.assertRaises(NothingToRedo):
            desk.do("redo")
        self.assertEqual([desk.do("undo"), desk.do("undo"), desk.labels(), desk.many_deeds()], ["claim r roomy p", "claim s served p", [], 1])
        self.assertEqual([desk.do("redo"), desk.labels(), desk.do("states")], ["claim s served p", ["s"], "s false"])
        # A deed that fails comes not between; one that is done does.
        for command in ("drop q", "tie p 0 0 1", "x"):
            with self.assertRaises((UnknownName, InvalidTies, InvalidCommand)):
                desk.do(command)
        self.assertEqual([desk.do("share p"), desk.do("redo"), desk.do("undo")], ["3/4", "claim r roomy p", "claim r roomy p"])
        self.assertEqual([desk.do("wish p 0 1 1"), desk.lines()[-1]], ["-", "wish p 0 1 1"])
        with self.assertRaises(NothingToRedo):
            desk.do("redo")
        while desk.many_deeds():
            desk.do("undo")
        with self.assertRaises(NothingToUndo):
            desk.do("undo")
        self.assertEqual([desk.names(), desk.labels(), desk.lines(), desk.do("redo"), desk.kept("p")], [[], [], [], f"traffic p {LINES}", LINE])

    def test_174_sessions_replayed(self):
        for seed in range(6):
            numbers, desk, plain = Numbers(700 + seed), Desk(), PlainDesk()
            traffic = [(web, wishes) for web, wishes in some_traffic(30, seed=710 + seed) if 2 < web[1] < 6]
            seen = 0
            for _ in range(120):
                name, other = ["p", "q", "r"][numbers.below(3)], ["p", "q", "r"][numbers.below(3)]
                label, word = ["a", "b", "c", "d"][numbers.below(4)], list(CONTRARY)[numbers.below(6)]
                pair = f"{numbers.below(4)} {numbers.below(4)}"
                command = [f"traffic {name} " + lines_of(*traffic[numbers.below(len(traffic))]), f"tie {name} {pair} {numbers.below(20)}", f"untie {name} {pair}",
                           f"wish {name} {pair} {numbers.below(9)}", f"unwish {name} {pair}", f"wish {name} {pair} 1", f"copy {name} {other}", f"drop {name}",
                           f"claim {label} {word} {name}", f"forget {label}", "undo", "redo", "undo", f"claim {label} {word} {name}",
                           f"renumber {name} " + ["1,0,2", "2,1,0,3", "4,3,2,1,0"][numbers.below(3)]][numbers.below(15)]
                before = (desk.names(), desk.labels(), desk.lines(), desk.do("states"), [desk.kept(kept) for kept in desk.names()])
                try:
                    answer = desk.do(command)
                except (InvalidTies, InvalidRows, InvalidOrder, NotTied, NoWish, NameTaken, LabelTaken, UnknownName, UnknownLabel, NothingToRedo, NothingToUndo):
                    self.assertEqual((desk.names(), desk.labels(), desk.lines(), desk.do("states"), [desk.kept(kept) for kept in desk.names()]), before)
                    continue
                seen += 1
                self.assertEqual(answer, plain.do(command))
                kept, claims = plain.replayed(plain.done)
                self.assertEqual([desk.names(), desk.labels(), desk.lines(), desk.many_deeds()], [sorted(kept), sorted(claims), plain.done, len(plain.done)])
                self.assertEqual([desk.kept(name) for name in sorted(kept)], [kept[name] for name in sorted(kept)])
                states = plain.states(plain.done)
                self.assertEqual(desk.do("states"), ", ".join([f"{label} {states[label]}" for label in sorted(states)]) or "-")
                for label in claims:
                    self.assertEqual([desk.do(f"state {label}"), desk.do(f"claimed {label}")], [states[label], " ".join(claims[label])])
            self.assertGreater(seen, 25)


class Failing(unittest.TestCase):
    def fails(self, desk, command, error, *told):
        before = (desk.names(), desk.labels(), desk.lines(), desk.do("states"), [desk.kept(name) for name in desk.names()])
        with self.assertRaises(error) as caught:
            desk.do(command)
        self.assertIs(type(caught.exception), error)
        self.assertEqual(tuple(vars(caught.exception).values()), told)
        self.assertEqual((desk.names(), desk.labels(), desk.lines(), desk.do("states"), [desk.kept(name) for name in desk.names()]), before)

    def test_174_no_commands(self):
        desk = some_desk()
        for value in STRANGE + NOT_TEXTS + NOT_WEBS + ["x", "undo ", "tie p 0 01 2", "claim k even p", "traffic q places 2"]:
            with self.assertRaises(InvalidCommand) as caught:
                desk.do(value)
            self.assertIs(caught.exception.value, value)
        self.assertEqual(desk.many_deeds(), 3)

    def test_174_taken_and_unknown(self):
        desk = some_desk()
        self.fails(desk, f"traffic p {LINES}", NameTaken, "p")
        self.fails(desk, "copy p p", NameTaken, "p")
        self.fails(desk, "copy p q", NameTaken, "p")
        self.fails(desk, "copy q q", UnknownName, "q")
        self.fails(desk, "claim s good p", LabelTaken, "s")
        self.fails(desk, "claim s good q", LabelTaken, "s")
        self.fails(desk, "claim t good q", UnknownName, "q")
        for command in ("tie q 0 1 2", "untie q 0 9", "wish q 0 0 99", "unwish q 1 2", "renumber q 5", "drop q", "show q", "room q 0 1", "least q 0 0", "over q",
                        "slack q", "share q", "kind q"):
            self.fails(desk, command, UnknownName, "q")
        self.fails(desk, "same q o", UnknownName, "q")
        self.fails(desk, "same p o", UnknownName, "o")
        for command in ("forget p", "state p", "claimed p"):
            self.fails(desk, command, UnknownLabel, "p")
        desk.do("drop p")
        for command in ("show p", "claim t good p", "drop p", "copy q p"):
            self.fails(desk, command, UnknownName, "p")
        self.assertEqual(desk.do("forget s"), "-")
        self.fails(desk, "forget s", UnknownLabel, "s")

    def test_174_ties(self):
        desk = some_desk()
        ties = [(0, 1, 3), (1, 2, 4)]
        for told in ((0, 2, 0), (0, 2, 21), (2, 0, 999999), (0, 0, 1), (0, 3, 1), (3, 0, 1), (7, 9, 1), (999999, 0, 5)):
            self.fails(desk, "tie p " + " ".join([str(number) for number in told]), InvalidTies, ties + [told])
        self.fails(desk, "tie p 1 0 21", InvalidTies, [(1, 2, 4), (1, 0, 21)])
        self.fails(desk, "tie p 0 1 0", InvalidTies, [(1, 2, 4), (0, 1, 0)])
        for pair in ("0 2", "2 0", "0 0", "0 9", "9 9", "999999 1"):
            self.fails(desk, "untie p " + pair, NotTied)
        self.fails(desk, "untie p 0 1", InvalidTies, [(1, 2, 4)])
        self.fails(desk, "untie p 2 1", InvalidTies, [(0, 1, 3)])
        desk.do(PAIR.format("q"))
        self.fails(desk, "untie q 0 1", InvalidTies, [])
        pairs = [(one, other) for one in range(6) for other in range(one + 1, 6)]
        desk.do("traffic o " + lines_of(("web", 6, tuple([pair + (1,) for pair in pairs[:14]])), ((0, 1, 1),)))
        self.fails(desk, "tie o 5 4 1", InvalidTies, [pair + (1,) for pair in pairs[:14]] + [(5, 4, 1)])
        self.assertEqual([desk.do("tie o 1 0 20"), desk.do("untie o 0 1"), desk.do("tie o 4 5 1"), desk.do("room o 0 1"), desk.do("room o 5 4")], ["-", "-", "-", "0", "1"])

    def test_174_wishes(self):
        desk = some_desk()
        for told in ((0, 1, 0), (0, 1, 21), (1, 1, 1), (0, 3, 1), (7, 0, 1), (9, 0, 1), (0, 1, 999999)):
            self.fails(desk, "wish p " + " ".join([str(number) for number in told]), InvalidRows, [(0, 2, 4), told])
        self.fails(desk, "wish p 2 0 0", InvalidRows, [(2, 0, 0)])
        for pair in ("0 1", "1 1", "0 9", "999999 0"):
            self.fails(desk, "unwish p " + pair, NoWish)
        self.fails(desk, "unwish p 2 0", InvalidRows, [])
        pairs = [(one, other) for one in range(4) for other in range(one + 1, 4)]
        web = ("web", 5, ((0, 1, 1), (1, 2, 1), (2, 3, 1), (3, 4, 1)))
        desk.do("traffic o " + lines_of(web, tuple([pair + (1,) for pair in pairs])))
        self.fails(desk, "wish o 0 4 1", InvalidRows, [pair + (1,) for pair in pairs] + [(0, 4, 1)])
        self.assertEqual([desk.do("wish o 1 0 20"), desk.do("unwish o 1 2"), desk.do("wish o 4 0 1"), desk.kept("o")[1][3]], ["-", "-", "-", (0, 4, 1)])

    def test_174_orders_and_places(self):
        desk = some_desk()
        for told in ([0, 1], [0, 1, 1], [0, 1, 3], [0, 1, 2, 3], [5], [0] * 8):
            self.fails(desk, "renumber p " + ",".join([str(number) for number in told]), InvalidOrder, told)
        for word in ("room", "least"):
            self.fails(desk, word + " p 3 0", InvalidPlace, 3)
            self.fails(desk, word + " p 0 999999", InvalidPlace, 999999)
            self.fails(desk, word + " p 9 8", InvalidPlace, 9)
        self.fails(desk, "least p 1 1", InvalidPlace, 1)
        self.assertEqual(desk.do("room p 1 1"), "0")

    def test_174_bounds(self):
        desk = Desk()
        for at in range(8):
            desk.do(PAIR.format(f"n{at}"))
        self.fails(desk, PAIR.format("n8"), TooMany, "names", 8)
        self.fails(desk, "copy n8 n1", TooMany, "names", 8)
        self.fails(desk, "copy n1 n8", NameTaken, "n1")
        for at in range(8):
            self.assertEqual(desk.do(f"claim k{at} good n0"), f"k{at} true")
        self.fails(desk, "claim k8 good n0", TooMany, "labels", 8)
        self.fails(desk, "claim k8 good n8", UnknownName, "n8")
        desk.do("drop n7")
        self.assertEqual([desk.do("copy n8 n1"), desk.do("forget k0"), desk.do("claim k8 bad n0")], ["-", "-", "k8 false"])

    def test_174_at_most_200_deeds(self):
        desk = Desk()
        desk.do(PAIR.format("p"))
        for at in range(199):
            desk.do(f"wish p 0 1 {1 + at % 3}")
        self.assertEqual(desk.many_deeds(), 200)
        self.fails(desk, "wish p 0 1 2", TooMany, "deeds", 200)
        # What else is wrong comes first.
        self.fails(desk, "wish p 0 1 21", InvalidRows, [(0, 1, 21)])
        self.fails(desk, "drop q", UnknownName, "q")
        self.assertEqual([desk.do("undo"), desk.do("redo"), desk.do("undo"), desk.do("drop p"), desk.many_deeds()], ["wish p 0 1 1"] * 3 + ["-", 200])
        self.fails(desk, PAIR.format("p"), TooMany, "deeds", 200)
        with self.assertRaises(CommandFailed) as caught:
            begun(desk.lines() + [PAIR.format("q")])
        self.assertEqual([caught.exception.position, type(caught.exception.__cause__)], [200, TooMany])
        self.assertEqual(begun(desk.lines()).many_deeds(), 200)

    def test_174_names_ahead_of_labels_ahead_of_deeds(self):
        desk = Desk()
        for at in range(8):
            desk.do(PAIR.format(f"n{at}"))
            desk.do(f"claim k{at} good n{at}")
        for at in range(184):
            desk.do(f"wish n0 0 1 {1 + at % 3}")
        self.fails(desk, "copy m n0", TooMany, "names", 8)
        self.fails(desk, "claim m good n0", TooMany, "labels", 8)
        self.fails(desk, "drop n0", TooMany, "deeds", 200)


class Questions(unittest.TestCase):
    def test_174_each_question(self):
        for web, wishes in some_traffic(80, seed=721):
            desk = begun(["traffic p " + lines_of(web, wishes), "copy q p", "traffic o " + LINES])
            ratio = share(web, wishes)
            self.assertEqual(desk.do("show p"), lines_of(web, wishes))
            self.assertEqual([desk.do("same p q"), desk.do("same p p"), desk.do("same o p")], ["yes", "yes", "yes" if (web, wishes) == LINE else "no"])
            self.assertEqual(desk.do("over p"), " ".join([",".join([str(place) for place in cut]) for cut in over(web, wishes)]) or "-")
            self.assertEqual(desk.do("slack p"), str(least_slack(web, wishes)[1]))
            self.assertEqual(desk.do("share p"), str(ratio[0]) + (f"/{ratio[1]}" if ratio[1] > 1 else ""))
            self.assertEqual(desk.do("kind p"), kind_of(tuple([wish[:2] for wish in wishes]))[0])
            for one in range(web[1]):
                for other in range(web[1]):
                    self.assertEqual(desk.do(f"room p {one} {other}"), str(room_between(web, one, other)))
                    if one != other:
                        cut = ",".join([str(place) for place in least_cut(web, one, other)])
                        self.assertEqual(desk.do(f"least p {one} {other}"), f"{cut} {least_room(web, one, other)}")
            self.assertEqual([desk.do("names"), desk.many_deeds()], ["o p q", 3])

    def test_174_same_tells_web_and_wishes_apart(self):
        desk = begun([f"traffic p {LINES}", "copy q p", "wish q 0 2 5", "copy r p", "tie r 0 1 4", "copy s p", "renumber s 2,1,0"])
        self.assertEqual([desk.do(f"same p {name}") for name in "pqrs"], ["yes", "no", "no", "no"])
        self.assertEqual([desk.do("tie r 0 1 3"), desk.do("same r p"), desk.do("slack q"), desk.do("over q"), desk.do("over p")], ["-", "yes", "-2", "1,2 2", "1,2"])


class Papers(unittest.TestCase):
    def test_172_papers_of_each_word(self):
        desk = some_desk()
        desk.do_all(["claim b barred p", "claim c crowded p", "claim g good p", "claim w bad p"])
        cut, lengths, plan = ("cut", (1, 2)), ("lengths", (1, 0)), ("plan", (((0, 1, 2), (3, 1)),))
        for label, good in (("s", [cut, lengths]), ("b", [cut, lengths]), ("r", [cut]), ("c", [cut]), ("g", []), ("w", [])):
            for paper in (cut, lengths, plan, ("good", ("hubs", (0, 2)))):
                if paper in good:
                    self.assertIsNone(desk.attach(label, paper))
                    self.assertIs(desk.fits(label), True)
                else:
                    with self.assertRaises(InvalidPaper) as caught:
                        desk.attach(label, paper)
                    self.assertIs(caught.exception.value, paper)
        self.assertEqual([desk.fits("g"), desk.fits("w"), desk.many_deeds()], [False, False, 7])
        desk.do("wish p 0 2 3")
        self.assertEqual([desk.fits(label) for label in "sbrc"], [False] * 4)
        for label in "sb":
            self.assertIsNone(desk.attach(label, plan))
            for paper in (cut, lengths):
                with self.assertRaises(InvalidPaper):
                    desk.attach(label, paper)
            self.assertIs(desk.fits(label), True)
        for label in "rc":
            for paper in (cut, lengths, plan):
                with self.assertRaises(InvalidPaper):
                    desk.attach(label, paper)

    def test_174_fits_of_what_it_was(self):
        desk = some_desk()
        desk.attach("s", ("cut", (1, 2)))
        self.assertIs(desk.fits("s"), True)
        # Taken back and done again, dropped and kept again, forgotten and claimed again: the paper stays.
        desk.do("wish p 0 2 3")
        self.assertIs(desk.fits("s"), False)
        desk.do("undo")
        self.assertIs(desk.fits("s"), True)
        desk.do("tie p 0 2 1")
        self.assertIs(desk.fits("s"), False)
        desk.do("wish p 0 2 5")
        self.assertIs(desk.fits("s"), True)
        desk.do("drop p")
        self.assertEqual([desk.do("state s"), desk.fits("s")], ["gone", False])
        with self.assertRaises(InvalidPaper):
            desk.attach("s", ("cut", (1, 2)))
        desk.do(f"traffic p {LINES}")
        self.assertIs(desk.fits("s"), True)
        desk.do("forget s")
        with self.assertRaises(UnknownLabel):
            desk.fits("s")
        desk.do("claim s served p")
        self.assertIs(desk.fits("s"), True)
        desk.do_all(["forget s", "claim s barred p"])
        self.assertIs(desk.fits("s"), False)
        desk.do_all(["forget s", "copy q p", "claim s served q"])
        self.assertIs(desk.fits("s"), False)
        desk.do_all(["forget s", "claim s served p"])
        self.assertIs(desk.fits("s"), True)

    def test_174_another_paper_takes_its_place(self):
        desk = some_desk()
        desk.attach("s", ("cut", (1, 2)))
        desk.attach(label="s", paper=("lengths", (3, 1)))
        desk.do("tie p 0 2 1")
        self.assertIs(desk.fits("s"), False)
        desk.do("undo")
        desk.do("wish p 0 2 20")
        self.assertIs(desk.fits("s"), True)
        # One that is not taken leaves the other one there.
        for paper in (("cut", (1,)), None, ("lengths", (0, 0)), ("plan", ()), TOUCHY):
            with self.assertRaises(InvalidPaper):
                desk.attach("s", paper)
        self.assertIs(desk.fits(label="s"), True)

    def test_174_wrong(self):
        desk = some_desk()
        for value in NO_NAMES + STRANGE + ["p"]:
            with self.assertRaises(UnknownLabel) as caught:
                desk.attach(value, TOUCHY)
            self.assertIs(caught.exception.value, value)
            with self.assertRaises(UnknownLabel) as caught:
                desk.fits(value)
            self.assertIs(caught.exception.value, value)
        for value in STRANGE + NOT_WEBS + [("cut", (2,)), ("cut", (1,)), ["cut", (1, 2)], ("cut", [1, 2]), ("lengths", (0, 1)), ("lengths", (1, 0, 0)), ("plan", (((0, 1, 2), (4, 1)),))]:
            for label in "sr":
                with self.assertRaises(InvalidPaper) as caught:
                    desk.attach(label, value)
                self.assertIs(caught.exception.value, value)
                self.assertIs(desk.fits(label), False)


class Together(unittest.TestCase):
    def test_174_rows_fail_as_a_whole(self):
        desk = some_desk()
        before = (desk.names(), desk.labels(), desk.lines(), desk.do("states"), desk.kept("p"))
        for commands, position, error in [(["tie p 0 2 1", "drop q"], 1, UnknownName), (["x"], 0, InvalidCommand), (["undo", "undo", "undo", "undo"], 3, NothingToUndo),
                                          (["drop p", f"traffic p {LINES}", "redo"], 2, NothingToRedo), (["copy q p", "tie q 0 1 0"], 1, InvalidTies),
                                          (("share p", None), 1, InvalidCommand), (["forget s", "claim r bad p"], 1, LabelTaken), ([[]], 0, InvalidCommand)]:
            with self.assertRaises(CommandFailed) as caught:
                desk.do_all(commands)
            self.assertEqual([caught.exception.position, type(caught.exception.__cause__)], [position, error])
            self.assertEqual((desk.names(), desk.labels(), desk.lines(), desk.do("states"), desk.kept("p")), before)
        with self.assertRaises(NothingToRedo):
            desk.do("redo")
        desk.do("undo")
        with self.assertRaises(CommandFailed):
            desk.do_all(["claim t good p", "x"])
        # What was taken back ahead of the row can still be done again.
        self.assertEqual([desk.do("redo"), desk.do_all([]), desk.do_all(("undo", "redo", "share p")), desk.do_all(commands=["names"])],
                         ["claim r roomy p", [], ["claim r roomy p", "claim r roomy p", "3/4"], ["p"]])

    def test_174_no_lists(self):
        for value in [None, "undo", "", {}, {"undo"}, 0, True, TOUCHY, b"undo", range(2)]:
            for function in (Desk().do_all, begun):
                with self.assertRaises(InvalidDeeds) as caught:
                    function(value)
                self.assertIsNone(caught.exception.position)

    def test_174_begun(self):
        desk = some_desk()
        desk.do_all(["tie p 0 2 1", "wish p 0 1 1", "undo", "copy q p"])
        other = begun(desk.lines())
        self.assertEqual([other.lines(), other.names(), other.labels(), other.kept("q"), other.do("states")],
                         [desk.lines(), ["p", "q"], ["r", "s"], desk.kept("q"), desk.do("states")])
        self.assertEqual([begun([]).lines(), begun(()).names(), begun(lines=tuple(desk.lines())).many_deeds()], [[], [], 5])
        for lines, position in ((["x"], 0), ([f"traffic p {LINES}", "share p", "x"], 1), (["drop p", "undo"], 1), ([None], 0), ([f"traffic p {LINES}"] * 2 + [TOUCHY], 2)):
            with self.assertRaises(InvalidDeeds) as caught:
                begun(lines)
            self.assertEqual(caught.exception.position, position)
        for lines, position, error in ((["drop p"], 0, UnknownName), ([f"traffic p {LINES}"] * 2, 1, NameTaken), ([f"traffic p {LINES}", "tie p 0 0 1"], 1, InvalidTies)):
            with self.assertRaises(CommandFailed) as caught:
                begun(lines)
            self.assertEqual([caught.exception.position, type(caught.exception.__cause__)], [position, error])

    def test_174_twins(self):
        desk = some_desk()
        desk.attach("s", ("cut", (1, 2)))
        desk.do("undo")
        twin = desk.twin()
        self.assertEqual([type(twin), twin.names(), twin.labels(), twin.lines(), twin.kept("p"), twin.fits("s"), twin.do("redo")],
                         [Desk, ["p"], ["s"], desk.lines(), LINE, True, "claim r roomy p"])
        self.assertEqual([desk.labels(), desk.many_deeds(), twin.many_deeds()], [["s"], 2, 3])
        twin.do("drop p")
        self.assertEqual([desk.names(), twin.names()], [["p"], []])
        desk.do("wish p 0 2 3")
        desk.attach("s", ("plan", (((0, 1, 2), (3, 1)),)))
        twin.do("undo")
        self.assertEqual([desk.fits("s"), twin.fits("s"), twin.kept("p")], [True, True, LINE])
        self.assertEqual([desk.do("undo"), desk.fits("s"), twin.fits("s")], ["wish p 0 2 3", False, True])

    def test_2_lists_are_new_and_nothing_passed_is_changed(self):
        desk = some_desk()
        for told in (desk.names(), desk.labels(), desk.lines(), desk.do_all(["names"])):
            told.append("spoilt")
        self.assertEqual([desk.names(), desk.labels(), len(desk.lines()), desk.do_all(["names"])], [["p"], ["r", "s"], 3, ["p"]])
        commands = ["copy q p", "drop q"]
        kept = copy.deepcopy(commands)
        desk.do_all(commands)
        self.assertEqual(commands, kept)
        commands[0] = "x"
        self.assertEqual(desk.lines()[-2:], kept)
        self.assertEqual(desk.do(command="slack p"), "-1")

    def test_172_methods_are_the_desks_own(self):
        for name in ("names", "labels", "kept", "many_deeds", "lines", "do", "do_all", "attach", "fits", "twin"):
            self.assertIn(name, vars(Desk))
        self.assertEqual([Desk.__module__, begun.__module__, Desk.__bases__], ["wishways.desk", "wishways.desk", (object,)])

    def test_171_a_kite(self):
        desk = begun(["traffic k " + lines_of(KITE, ((0, 3, 3),))])
        self.assertEqual([desk.do("claim s served k"), desk.do("wish k 1 2 1"), desk.do("least k 0 3")], ["s true", "s false", "1,2,3 3"])


if __name__ == "__main__":
    unittest.main()
