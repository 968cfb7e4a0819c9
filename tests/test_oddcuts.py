"""Odd cuts, packings, levels and shores: [153], [155] to [158]."""

import unittest
from fractions import Fraction
from itertools import combinations, permutations

from samples import (KITE, NOT_CUTS, NOT_EMPTY, NOT_LENGTHS, NOT_LOTS, NOT_ODD_PLACES, NOT_WEBS, SQUARE, TOUCHY, WHEEL, Numbers, fraction, plain_cuts, plain_sum, ratio_of,
                     some_lengths, some_webs)
from test_oddlots import some_odd
from wishways.errors import InvalidLengths, InvalidPacking, InvalidPlaces, InvalidWeb
from wishways.oddcuts import (are_best, has_even_rounds, is_odd_cut, is_packing, least_odd_cut, level_packing, odd_cuts, packing_worth)
from wishways.oddlots import heights, least_lot, least_lot_length, peaks

TIED = ("web", 4, ((0, 1, 1), (0, 2, 1), (0, 3, 1), (1, 2, 1), (1, 3, 1), (2, 3, 1)))
ALL = (0, 1, 2, 3)


def some_cases(count, seed, mosts=(1, 2, 5, 40, 10 ** 12)):
    numbers = Numbers(seed)
    return [(web, some_lengths(numbers, web, mosts[at % len(mosts)]), some_odd(numbers, web[1])) for at, web in enumerate(some_webs(count, seed=seed + 1))]


def is_plainly_odd(places, cut):
    return len(set(places) & set(cut)) % 2 == 1


def is_plain_packing(web, lengths, packing):
    return all([sum([fraction(ratio) for cut, ratio in packing if len(set(tie[:2]) & set(cut)) == 1]) <= length
                for tie, length in zip(web[2], lengths)])


def plain_shores(web, tops, summits, level):
    """The set of the shores at a level, by painting places alike."""
    colour = {place: place for place in range(web[1]) if tops[place] <= level}
    for (one, other, _), summit in zip(web[2], summits):
        if summit <= level:
            old, new = colour[one], colour[other]
            colour = {place: new if kept == old else kept for place, kept in colour.items()}
    lots = [tuple([place for place in colour if colour[place] == kept]) for kept in set(colour.values())]
    return {lot for lot in lots if 0 not in lot}


def plain_levels(web, lengths, places):
    """The packing, told by looks at the middle between each two levels at which anything begins."""
    tops = heights(web, lengths, places)
    summits = [fraction(peak) for peak in peaks(web, lengths, places)]
    levels = sorted(set(tops + summits))
    much = {}
    for low, high in zip(levels, levels[1:]):
        shores = plain_shores(web, tops, summits, low)
        assert shores == plain_shores(web, tops, summits, Fraction(low + high) / 2)
        for shore in shores:
            much[shore] = much.get(shore, Fraction(0)) + high - low
    return tuple(sorted([(shore, ratio_of(part)) for shore, part in much.items()]))


def plain_rounds_of_ties(web):
    """All rounds of ties, as tuples of their positions."""
    tied = {frozenset(tie[:2]): at for at, tie in enumerate(web[2])}
    found = []
    for many in range(3, web[1] + 1):
        for places in permutations(range(web[1]), many):
            if places[0] == min(places) and places[1] < places[-1]:
                sides = [frozenset(side) for side in zip(places, places[1:] + places[:1])]
                if all([side in tied for side in sides]):
                    found.append([tied[side] for side in sides])
    return found


class OddCuts(unittest.TestCase):
    def test_153_against_all_cuts(self):
        for web, _, places in some_cases(80, 641):
            cuts = [cut for cut in sorted(plain_cuts(web[1])) if is_plainly_odd(places, cut)]
            self.assertEqual(odd_cuts(web, places), cuts)
            for cut in plain_cuts(web[1])[:30]:
                self.assertIs(is_odd_cut(web, places, cut), cut in cuts)
            if places:
                rooms = [plain_sum(web[2], cut) for cut in cuts]
                self.assertEqual(least_odd_cut(web, places), cuts[rooms.index(min(rooms))])
            else:
                self.assertEqual([cuts, least_odd_cut(web, places)], [[], None])

    def test_153_any_value(self):
        for value in NOT_CUTS + [(4,), (1, 2, 3, 4)]:
            self.assertIs(is_odd_cut(KITE, (0, 3), value), False)
        self.assertEqual([is_odd_cut(KITE, (0, 3), (3,)), is_odd_cut(KITE, (0, 3), (1, 2)), is_odd_cut(KITE, (), (1,)), is_odd_cut(KITE, ALL, (1, 2, 3))],
                         [True, False, False, True])

    def test_157_by_hand(self):
        self.assertEqual([least_odd_cut(KITE, (0, 3)), least_odd_cut(KITE, ALL), least_odd_cut(SQUARE, (1, 3)), least_odd_cut(KITE, ())],
                         [(1, 2, 3), (1, 2, 3), (1,), None])


class Packings(unittest.TestCase):
    def test_153_packings(self):
        numbers, seen = Numbers(643), []
        for web, lengths, places in some_cases(150, 644, (2, 5, 40)):
            cuts = odd_cuts(web, places)
            self.assertIs(is_packing(web, lengths, places, ()), True)
            self.assertEqual(packing_worth(web, lengths, places, ()), (0, 1))
            for _ in range(4 if cuts else 0):
                chosen = sorted({cuts[numbers.below(len(cuts))] for _ in range(1 + numbers.below(3))})
                packing = tuple([(cut, ratio_of(Fraction(1 + numbers.below(5), 1 + numbers.below(4)))) for cut in chosen])
                fits = is_plain_packing(web, lengths, packing)
                self.assertIs(is_packing(web, lengths, places, packing), fits)
                seen.append(fits)
                if fits:
                    worth = sum([fraction(ratio) for _, ratio in packing])
                    self.assertEqual(packing_worth(web, lengths, places, packing), ratio_of(worth))
                    self.assertLessEqual(worth, least_lot_length(web, lengths, places))
                else:
                    with self.assertRaises(InvalidPacking) as caught:
                        packing_worth(web, lengths, places, packing)
                    self.assertIs(caught.exception.value, packing)
        self.assertGreater(min(seen.count(True), seen.count(False)), 60)

    def test_153_packings_of_any_value(self):
        ones = (1,) * 6
        good = (((1,), (1, 2)), ((1, 2, 3), (1, 2)), ((2,), (1, 2)), ((3,), (1, 2)))
        self.assertIs(is_packing(TIED, ones, ALL, good), True)
        for value in NOT_EMPTY + [
                list(good), good[::-1], good + good[-1:], (((1,), (3, 2)),), (((1,), (0, 1)),), (((1,), (-1, 2)),), (((1,), (2, 4)),), (((1,), 1),), (((1, 2), (1, 2)),),
                (((1,), (True, 2)),), (((0,), (1, 2)),), (((1,), (1, 2), ()),), (((1,),),), ([(1,), (1, 2)],), (([1], (1, 2)),), (((True,), (1, 2)),), (((4,), (1, 2)),),
                (((1,), TOUCHY),), ((TOUCHY, (1, 2)),), (((1,), None),), ((None, (1, 2)),), (((1,), (1, 2)), ((1,), (1, 4))), (((), (1, 2)),)]:
            self.assertIs(is_packing(TIED, ones, ALL, value), False)
            self.assertIs(are_best(TIED, ones, ALL, (0, 5), value), False)
            with self.assertRaises(InvalidPacking) as caught:
                packing_worth(TIED, ones, ALL, value)
            self.assertIs(caught.exception.value, value)

    def test_156_best(self):
        ones, good = (1,) * 6, (((1,), (1, 2)), ((1, 2, 3), (1, 2)), ((2,), (1, 2)), ((3,), (1, 2)))
        for lot in ((0, 5), (1, 4), (2, 3)):
            self.assertIs(are_best(TIED, ones, ALL, lot, good), True)
        self.assertIs(are_best(TIED, ones, ALL, (0, 5), good[:3]), False)
        self.assertIs(are_best(TIED, ones, ALL, (0, 1, 2), good), False)
        for value in [value for value in NOT_LOTS if repr(value) != "(0, 5)"] + [(), (0,), (0, 1)]:
            self.assertIs(are_best(TIED, ones, ALL, value, good), False)
        self.assertEqual([are_best(TIED, ones, (), (), ()), are_best(TIED, ones, (), (0, 1, 3), ()), are_best(TIED, (0,) * 6, (), (0, 1, 3), ())], [True, False, True])


class Levels(unittest.TestCase):
    def test_155_against_plain_shores(self):
        for web, lengths, places in some_cases(200, 646):
            self.assertEqual(level_packing(web, lengths, places), plain_levels(web, lengths, places))

    def test_156_worth_just_as_much(self):
        halves = []
        for web, lengths, places in some_cases(250, 648):
            packing, lot = level_packing(web, lengths, places), least_lot(web, lengths, places)
            self.assertEqual([cut for cut, _ in packing], sorted({cut for cut, _ in packing}))
            self.assertTrue(all([is_plainly_odd(places, cut) and cut in plain_cuts(web[1]) and ratio[0] > 0 for cut, ratio in packing]))
            self.assertTrue(is_plain_packing(web, lengths, packing))
            self.assertEqual(sum([fraction(ratio) for _, ratio in packing]), sum([lengths[at] for at in lot]))
            self.assertIs(are_best(web, lengths, places, lot, packing), True)
            self.assertLessEqual(max([1] + [ratio[1] for _, ratio in packing]), 2)
            halves.append(max([1] + [ratio[1] for _, ratio in packing]))
            if has_even_rounds(web, lengths):
                self.assertEqual({ratio[1] for _, ratio in packing} | {peak[1] for peak in peaks(web, lengths, places)}, {1})
        self.assertGreater(min(halves.count(1), halves.count(2)), 15)

    def test_156_all_odd_places_of_a_wheel(self):
        for many in (0, 2, 4, 6, 8):
            for places in combinations(range(8), many):
                packing = level_packing(WHEEL, (1, 3, 2, 1, 4, 1, 2, 2, 1, 3, 1, 2, 5, 1), places)
                worth = sum([fraction(ratio) for _, ratio in packing])
                self.assertEqual(worth, least_lot_length(WHEEL, (1, 3, 2, 1, 4, 1, 2, 2, 1, 3, 1, 2, 5, 1), places))

    def test_156_webs_of_two_sides(self):
        numbers, seen = Numbers(650), 0
        for web in some_webs(120, seed=651):
            pairs = [tie for tie in web[2] if (tie[0] + tie[1]) % 2]
            web = ("web", web[1], tuple(sorted(set([(place, place + 1, 1) for place in range(web[1] - 1)] + [tie[:2] + (1,) for tie in pairs]))))
            places, ones = some_odd(numbers, web[1]), (1,) * len(web[2])
            self.assertIs(has_even_rounds(web, ones), True)
            packing = level_packing(web, ones, places)
            self.assertEqual({ratio for _, ratio in packing} - {(1, 1)}, set())
            self.assertEqual(len(packing), least_lot_length(web, ones, places))
            seen += len(packing) > 2
        self.assertGreater(seen, 20)

    def test_156_even_rounds_against_all_rounds(self):
        numbers, seen = Numbers(652), []
        for web in [web for web in some_webs(90, seed=653) if web[1] < 8]:
            rounds = plain_rounds_of_ties(web)
            # Whether a place counts tells which lengths are odd, so that all rounds are even; then one is changed.
            sides = [numbers.below(2) for _ in range(web[1])]
            even = tuple([2 * numbers.below(4) + (sides[one] + sides[other]) % 2 for one, other, _ in web[2]])
            at = numbers.below(len(even))
            for lengths in (even, even[:at] + (even[at] + 1,) + even[at + 1:], some_lengths(numbers, web, 3)):
                plain = all([sum([lengths[tie] for tie in ties]) % 2 == 0 for ties in rounds])
                self.assertIs(has_even_rounds(web, lengths), plain)
                seen.append(plain)
        self.assertGreater(min(seen.count(True), seen.count(False)), 40)

    def test_158(self):
        ones = (1,) * 6
        self.assertEqual(level_packing(TIED, ones, ALL), (((1,), (1, 2)), ((1, 2, 3), (1, 2)), ((2,), (1, 2)), ((3,), (1, 2))))
        self.assertEqual([packing_worth(TIED, ones, ALL, level_packing(TIED, ones, ALL)), least_lot_length(TIED, ones, ALL)], [(2, 1), 2])
        # In wholes just one odd cut can be packed.
        cuts = odd_cuts(TIED, ALL)
        for cut in cuts:
            self.assertIs(is_packing(TIED, ones, ALL, ((cut, (1, 1)),)), True)
        for one, other in combinations(cuts, 2):
            self.assertIs(is_packing(TIED, ones, ALL, ((one, (1, 1)), (other, (1, 1)))), False)
        self.assertEqual(level_packing(SQUARE, (1, 5, 2, 0), ()), ())


class Wrong(unittest.TestCase):
    def test_153_wrong(self):
        lengths = (1, 9, 1, 2, 0)
        for value in NOT_WEBS:
            for function in (lambda web: is_odd_cut(web, TOUCHY, ()), lambda web: odd_cuts(web, TOUCHY), lambda web: least_odd_cut(web, TOUCHY),
                             lambda web: is_packing(web, TOUCHY, TOUCHY, ()), lambda web: packing_worth(web, TOUCHY, TOUCHY, TOUCHY),
                             lambda web: level_packing(web, TOUCHY, TOUCHY), lambda web: are_best(web, TOUCHY, TOUCHY, (), ()),
                             lambda web: has_even_rounds(web, TOUCHY)):
                with self.assertRaises(InvalidWeb) as caught:
                    function(value)
                self.assertIs(caught.exception.value, value)
        for value in NOT_LENGTHS:
            for function in (lambda told: is_packing(KITE, told, TOUCHY, ()), lambda told: packing_worth(KITE, told, TOUCHY, TOUCHY),
                             lambda told: level_packing(KITE, told, TOUCHY), lambda told: are_best(KITE, told, TOUCHY, (), ()),
                             lambda told: has_even_rounds(KITE, told)):
                with self.assertRaises(InvalidLengths) as caught:
                    function(value)
                self.assertIs(caught.exception.value, value)
        for value in NOT_ODD_PLACES:
            for function in (lambda places: is_odd_cut(KITE, places, ()), lambda places: odd_cuts(KITE, places), lambda places: least_odd_cut(KITE, places),
                             lambda places: is_packing(KITE, lengths, places, ()), lambda places: packing_worth(KITE, lengths, places, TOUCHY),
                             lambda places: level_packing(KITE, lengths, places), lambda places: are_best(KITE, lengths, places, (), ())):
                with self.assertRaises(InvalidPlaces) as caught:
                    function(value)
                self.assertIs(caught.exception.value, value)


if __name__ == "__main__":
    unittest.main()
