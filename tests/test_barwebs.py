"""Webs that bar, papers of pairs: [114] to [117]."""

import unittest

from samples import NOT_PAIRS, NOT_WEBS, STRANGE, Numbers, plain_cuts, plain_had, plain_spent, plain_sum, some_pairs
from test_fourplaces import over
from test_kinds import PAIRS, RING, THREE
from wishways.barwebs import bar_lengths, bar_traffic, enough, is_enough
from wishways.deciding import is_served
from wishways.errors import GoodPairs, InvalidPairs
from wishways.kinds import kind_of
from wishways.webs import is_traffic

BAD = [pairs for pairs in PAIRS if kind_of(pairs)[0] in ("apart", "beside")]
GOOD = [pairs for pairs in PAIRS if kind_of(pairs)[0] not in ("apart", "beside")]


def plain_told(pairs):
    """By the words of [114]: the ties with room 1 and length 1, the place all further ones are tied to, the wishes."""
    kind = kind_of(pairs)
    if kind[0] == "apart":
        (a, b), (c, d), (e, f) = kind[1]
        return [{a, c}, {a, d}, {b, e}, {b, f}, {c, e}, {c, f}, {d, e}, {d, f}], a, {(a, b): 1, (c, d): 2, (e, f): 1}
    (a, b, c), (d, e) = kind[1:]
    ties = [{d, a}, {d, b}, {d, c}, {e, a}, {e, b}, {e, c}]
    return ties, d, {(a, b): 1, (a, c): 1, (b, c): 1, (d, e): 1}


class BarWebs(unittest.TestCase):
    def test_114_the_told_web(self):
        words = []
        for pairs in BAD:
            ties, hub, wishes = plain_told(pairs)
            web, asked = bar_traffic(pairs)
            lengths = bar_lengths(pairs)
            words.append(kind_of(pairs)[0])
            many = max([place for pair in pairs for place in pair]) + 1
            further = [place for place in range(many) if not any([place in tie for tie in ties])]
            self.assertTrue(is_traffic(web, asked))
            self.assertEqual([web[1], dict([(wish[:2], wish[2]) for wish in asked])], [many, wishes])
            told = {frozenset(tie[:2]): length for tie, length in zip(web[2], lengths)}
            wanted = {frozenset(tie): 1 for tie in ties}
            wanted.update({frozenset([hub, place]): 0 for place in further})
            self.assertEqual([told, {tie[2] for tie in web[2]}, type(lengths)], [wanted, {1}, tuple])
        self.assertGreater(min(words.count("apart"), words.count("beside")), 4)

    def test_114_room_everywhere_and_barred(self):
        for pairs in BAD:
            web, wishes = bar_traffic(pairs)
            lengths = bar_lengths(pairs)
            self.assertEqual(over(web, wishes), [])
            sums = (plain_had(web, lengths), plain_spent(web, wishes, lengths))
            self.assertEqual(sums, (8, 9) if kind_of(pairs)[0] == "apart" else (6, 8))
            self.assertTrue(all([wish[:2] in pairs for wish in wishes]))

    def test_114_and_not_served(self):
        for pairs in BAD[::40]:
            self.assertFalse(is_served(*bar_traffic(pairs)))

    def test_114_by_hand(self):
        self.assertEqual(bar_traffic(((1, 2), (3, 4), (5, 7))), (
            ("web", 8, ((0, 1, 1), (1, 3, 1), (1, 4, 1), (1, 6, 1), (2, 5, 1), (2, 7, 1), (3, 5, 1), (3, 7, 1), (4, 5, 1), (4, 7, 1))),
            ((1, 2, 1), (3, 4, 2), (5, 7, 1))))
        self.assertEqual(bar_lengths(((1, 2), (3, 4), (5, 7))), (0, 1, 1, 0, 1, 1, 1, 1, 1, 1))
        # The pair ahead of its ring; further places tied to the pair's lesser place; a further pair wishes nothing.
        pairs = ((0, 1), (0, 6), (2, 3), (2, 5), (3, 5))
        self.assertEqual(kind_of(pairs), ("beside", (2, 3, 5), (0, 1)))
        self.assertEqual(bar_traffic(pairs), (
            ("web", 7, ((0, 2, 1), (0, 3, 1), (0, 4, 1), (0, 5, 1), (0, 6, 1), (1, 2, 1), (1, 3, 1), (1, 5, 1))),
            ((0, 1, 1), (2, 3, 1), (2, 5, 1), (3, 5, 1))))
        self.assertEqual(bar_lengths(pairs), (1, 1, 0, 1, 0, 1, 1, 1))

    def test_114_good_pairs_have_none(self):
        for pairs in GOOD:
            for function in (bar_traffic, bar_lengths):
                with self.assertRaises(GoodPairs):
                    function(pairs)

    def test_114_wrong_pairs(self):
        for value in NOT_PAIRS:
            for function in (bar_traffic, bar_lengths, enough, lambda pairs: is_enough(pairs, None)):
                with self.assertRaises(InvalidPairs) as caught:
                    function(value)
                self.assertIs(caught.exception.value, value)


class Enough(unittest.TestCase):
    def test_116_one_word_for_each(self):
        for pairs in PAIRS:
            paper = enough(pairs)
            self.assertIs(is_enough(pairs, paper), True)
            if pairs in GOOD:
                self.assertEqual(paper, ("good", kind_of(pairs)))
            else:
                self.assertEqual(paper[0], "bad")
                self.assertIs(is_enough(pairs, ("good", kind_of(pairs))), False)
                self.assertEqual([over(paper[1], paper[2]), all([wish[:2] in pairs for wish in paper[2]])], [[], True])
                self.assertGreater(plain_spent(*paper[1:]), plain_had(paper[1], paper[3]))

    def test_116_bad_papers_are_of_no_good_pairs(self):
        # Whatever web and lengths, for good pairs: what is barred has a cut that is over-asked.
        numbers = Numbers(401)
        for pairs in GOOD[::5]:
            for bad in BAD[::37]:
                self.assertFalse(is_enough(pairs, enough(bad)))
            many = max(8, numbers.below(9))
            ties = tuple([(0, place, 1) for place in range(1, many)])
            web, wishes = ("web", many, ties), tuple([pair + (20,) for pair in pairs])
            self.assertFalse(is_enough(pairs, ("bad", web, wishes, (1,) * (many - 1))))

    def test_116_with_one_thing_otherwise(self):
        paper = enough(RING)
        _, web, wishes, lengths = paper
        self.assertTrue(is_enough(RING, ("bad", web, wishes, (2,) * 6)))
        less = ("bad", web, wishes, (1, 1, 0, 1, 1, 1))
        self.assertEqual([plain_had(web, less[3]), plain_spent(web, wishes, less[3])], [5, 5])
        # One more tie, of no length at no wish's way: barred all the same.
        wider = ("web", 6, web[2] + ((4, 5, 7),))
        self.assertTrue(is_enough(RING, ("bad", wider, wishes, lengths + (0,))))
        self.assertFalse(is_enough(RING, ("bad", wider, wishes, lengths + (1,))))
        crowded = wishes[:3] + ((3, 4, 4),)
        self.assertNotEqual([cut for cut in plain_cuts(5) if plain_sum(web[2], cut) < plain_sum(crowded, cut)], [])
        others = [less, ("bad", web, crowded, lengths), ("bad", web, wishes[:3], lengths), ("bad", web, wishes), paper + ((),),
                  ("good",) + paper[1:], ("bat",) + paper[1:], list(paper), ("bad", web, wishes, list(lengths)), ("bad", web, wishes, lengths[:5]),
                  ("bad", web, wishes, (1, 1, 1, 1, 1, True)), ("bad", web, list(wishes), lengths), ("bad", None, wishes, lengths),
                  ("bad", web[:2] + (web[2][:5],), wishes, lengths[:5]), ("bad", web, ((0, 1, 1),) + wishes, lengths)]
        for other in others:
            self.assertIs(is_enough(RING, other), False)
        # The same web for pairs that lack one of its wishes' pairs, though they are bad for a reason of their own.
        self.assertIs(is_enough(((0, 1), (0, 2), (1, 2), (3, 5), (4, 6)), paper), False)
        self.assertIs(is_enough(RING + ((5, 6),), paper), True)
        self.assertIs(is_enough(THREE, paper), False)

    def test_116_the_own_kind_alone(self):
        pairs = ((0, 1), (0, 2), (3, 4))
        for value in (("hubs", (0, 3)),):
            self.assertIs(is_enough(pairs, ("good", value)), True)
        for value in [("hubs", (0, 4)), ("hubs", [0, 3]), ("hubs", (False, 3)), ["hubs", (0, 3)], ("hubs",), ("hubs", (0, 3), ()), (b"hubs", (0, 3)),
                      ("four", (0, 1, 2, 3)), "hubs", ("hubs", (0, 3, 3)), ("hubs", None), ("hubs", ("0", 3))] + STRANGE:
            self.assertIs(is_enough(pairs, ("good", value)), False)
        self.assertIs(is_enough(((0, 2), (0, 3), (1, 2), (1, 4), (3, 4)), ("good", ("ring", (0, 2, 1, 4, 3)))), True)
        self.assertIs(is_enough(((0, 2), (0, 3), (1, 2), (1, 4), (3, 4)), ("good", ("ring", (0, 3, 4, 1, 2)))), False)

    def test_116_any_value(self):
        for pairs in (RING, THREE, ((0, 1),)):
            for value in STRANGE + NOT_WEBS:
                self.assertIs(is_enough(pairs, value), False)
                self.assertIs(is_enough(pairs, ("bad", value, value, value)), False)
                self.assertIs(is_enough(pairs, ("bad", ("web", 2, ((0, 1, 1),)), value, value)), False)
                self.assertIs(is_enough(pairs, ("good", value)), False)

    def test_117(self):
        self.assertEqual([enough(THREE)[0], enough(RING)[0], enough(((0, 1), (0, 2), (3, 4)))], ["bad", "bad", ("good", ("hubs", (0, 3)))])

    def test_115_good_pairs_served_exactly_without_over_asked(self):
        numbers = Numbers(402)
        for _ in range(40):
            pairs = some_pairs(numbers, 5)
            self.assertEqual(enough(pairs)[0] == "good", kind_of(pairs)[0] in ("hubs", "four", "ring"))


if __name__ == "__main__":
    unittest.main()
