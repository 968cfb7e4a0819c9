"""Reasons, papers decided, greatest times: [71], [81], [82], [85]."""

import unittest
from fractions import Fraction

from samples import BOTH, KITE, LEAST, LINE, NOT_WISHES, fraction, plain_cuts, plain_sum, some_traffic
from wishways.deciding import decided, greatest_times, is_served, reason, share_paper
from wishways.errors import InvalidWeb, InvalidWishes
from wishways.papers import is_paper, is_share_paper
from wishways.served import serving_plan, share

FOUR = ((0, 1, 1), (2, 3, 1), (2, 4, 1), (3, 4, 1))
CROSSED = ("web", 6, ((0, 2, 1), (0, 3, 1), (1, 4, 1), (1, 5, 1), (2, 4, 1), (2, 5, 1), (3, 4, 1), (3, 5, 1)))
THREE = ((0, 1, 1), (2, 3, 2), (4, 5, 1))
TRAFFIC = some_traffic(120, seed=311) + [(BOTH, FOUR), (CROSSED, THREE), (BOTH, FOUR[:3]), (KITE, ((0, 3, 1), (1, 2, 1)))]


class Deciding(unittest.TestCase):
    def test_82_reasons(self):
        told = []
        for web, wishes in TRAFFIC:
            cuts = [cut for cut in sorted(plain_cuts(web[1])) if plain_sum(web[2], cut) < plain_sum(wishes, cut)]
            served = serving_plan(web, wishes) is not None
            word = "cut" if cuts else "plan" if served else "lengths"
            self.assertEqual(reason(web, wishes), word)
            self.assertIs(is_served(web, wishes), served)
            paper = decided(web, wishes)
            self.assertEqual(paper[0], word)
            self.assertIs(is_paper(web, wishes, paper), True)
            if cuts:
                self.assertEqual(paper, ("cut", cuts[0]))
            told.append(word)
        self.assertEqual(sorted(set(told)), ["cut", "lengths", "plan"])

    def test_82_by_hand(self):
        self.assertEqual([reason(BOTH, FOUR), reason(CROSSED, THREE), reason(BOTH, FOUR[1:]), reason(LEAST, ((0, 1, 1),)),
                          reason(LEAST, ((0, 1, 2),))], ["lengths", "lengths", "plan", "plan", "cut"])
        self.assertEqual(decided(LEAST, ((0, 1, 1),)), ("plan", (((0, 1), (1, 1)),)))
        self.assertEqual(decided(LEAST, ((0, 1, 2),)), ("cut", (1,)))

    def test_85_share_papers(self):
        for web, wishes in TRAFFIC:
            paper = share_paper(web, wishes)
            self.assertEqual(paper[:2], ("share", share(web, wishes)))
            self.assertIs(is_share_paper(web, wishes, paper), True)

    def test_72_greatest_times(self):
        for web, wishes in TRAFFIC:
            times = greatest_times(web, wishes)
            self.assertIs(type(times), int)
            self.assertEqual(times, int(fraction(share(web, wishes))))
            for many, served in [(times, True), (times + 1, False)]:
                more = tuple([(one, other, wish * many) for one, other, wish in wishes])
                if many and max([wish for _, _, wish in more]) <= 20:
                    self.assertIs(is_served(web, more), served)

    def test_72_greatest_times_above_20(self):
        self.assertEqual([greatest_times(("web", 2, ((0, 1, 20),)), ((0, 1, wish),)) for wish in (1, 2, 3, 19, 20)], [20, 10, 6, 1, 1])
        wide = ("web", 3, ((0, 1, 20), (0, 2, 20), (1, 2, 20)))
        self.assertEqual([greatest_times(wide, ((0, 1, 1),)), greatest_times(LINE, ((0, 2, 4),)), greatest_times(BOTH, FOUR)], [40, 0, 0])
        self.assertEqual(share(wide, ((0, 1, 1),)), (40, 1))
        self.assertEqual(Fraction(*share(LINE, ((0, 2, 4),))), Fraction(3, 4))

    def test_2_wrong_wishes(self):
        for function in (reason, is_served, decided, share_paper, greatest_times):
            for wishes in NOT_WISHES + [((0, 4, 1),)]:
                with self.assertRaises(InvalidWishes) as caught:
                    function(KITE, wishes)
                self.assertIs(caught.exception.value, wishes)
            with self.assertRaises(InvalidWeb):
                function(None, None)


if __name__ == "__main__":
    unittest.main()
