"""Rim rooms, rim cuts, rim wishes, and which are over-asked: [132], [133]."""

import unittest

from samples import (FLAT_BOW, FLAT_FOUR, FLAT_KITE, FLAT_PAIR, NOT_FLATS, NOT_STEPS, NOT_WISHES, TOUCHY, plain_cuts, plain_sum, some_flats,
                     some_rim_traffic)
from test_duals import is_plain_joined
from test_fourplaces import over
from test_rims import does_plainly_meet, plain_steps, two_steps
from wishways.errors import InvalidFlat, InvalidStep, InvalidWishes
from wishways.rimcuts import rim_cut, rim_over_asked, rim_room, rim_rows, rim_wish
from wishways.rims import between, do_meet, rim_steps

FLATS = some_flats(120, seed=541) + [FLAT_KITE, FLAT_PAIR, FLAT_BOW, FLAT_FOUR]
TRAFFIC = some_rim_traffic(300, seed=542)


class RimCuts(unittest.TestCase):
    def test_132_none_without_meeting(self):
        for flat in FLATS:
            for step, later in two_steps(flat):
                met = do_meet(flat, step, later)
                self.assertEqual([rim_room(flat, step, later) is None, rim_cut(flat, step, later) is None], [not met] * 2)

    def test_132_rooms_and_cuts(self):
        twins = 0
        for flat in FLATS:
            steps = rim_steps(flat)
            for step, later in two_steps(flat):
                met = does_plainly_meet(flat, step, later)
                if met is None:
                    continue
                twin = plain_steps(flat)[step] == plain_steps(flat)[later][::-1]
                twins += twin
                ties = [steps[step][0]] if twin else [steps[step][0], steps[later][0]] + list(met[1])
                cut = rim_cut(flat, step, later)
                crossing = [at for at, tie in enumerate(flat[1][2]) if (tie[0] in cut) != (tie[1] in cut)]
                self.assertEqual(sorted(ties), crossing)
                self.assertEqual(rim_room(flat, step, later), plain_sum(flat[1][2], cut))
                self.assertTrue(is_plain_joined(flat[1], cut))
                inside = sorted([place for place in set(flat[3]) if place in cut])
                told = between(flat, step, later)
                self.assertIn(inside, [told, sorted(set(flat[3]) - set(told))])
        self.assertGreater(twins, 50)

    def test_132_no_cut_over_just_these_has_less(self):
        for flat in FLATS:
            steps = plain_steps(flat)
            for step, later in two_steps(flat):
                if rim_room(flat, step, later) is None:
                    continue
                for cut in plain_cuts(flat[1][1]):
                    across = [at for at, (one, other) in enumerate(steps) if (one in cut) != (other in cut)]
                    if across == [step, later]:
                        self.assertGreaterEqual(plain_sum(flat[1][2], cut), rim_room(flat, step, later))

    def test_133_rows(self):
        for flat, wishes in TRAFFIC:
            rows = []
            for step, later in two_steps(flat):
                told = between(flat, step, later)
                wish = sum([much for one, other, much in wishes if (one in told) + (other in told) == 1])
                self.assertEqual(rim_wish(flat, wishes, step, later), wish)
                if rim_room(flat, step, later) is not None:
                    rows.append((step, later, rim_room(flat, step, later), wish))
                    self.assertEqual(wish, plain_sum(wishes, rim_cut(flat, step, later)))
            self.assertEqual(rim_rows(flat, wishes), rows)
            self.assertEqual(rim_over_asked(flat, wishes), [row[:2] for row in rows if row[3] > row[2]])

    def test_133_exactly_if_some_cut_is(self):
        seen = []
        for flat, wishes in TRAFFIC:
            rim, cuts = rim_over_asked(flat, wishes), over(flat[1], wishes)
            self.assertEqual(rim == [], cuts == [])
            for step, later in rim:
                self.assertIn(rim_cut(flat, step, later), cuts)
            seen.append(rim == [])
        self.assertGreater(min(seen.count(True), seen.count(False)), 60)

    def test_132_by_hand(self):
        self.assertEqual([rim_room(FLAT_PAIR, 0, 1), rim_cut(FLAT_PAIR, 0, 1), rim_rows(FLAT_PAIR, ((0, 1, 4),))], [3, (1,), [(0, 1, 3, 4)]])
        self.assertEqual([rim_room(FLAT_BOW, 3, 4), rim_cut(FLAT_BOW, 3, 4), rim_cut(FLAT_BOW, 1, 5), rim_cut(FLAT_BOW, 0, 7)], [3, (5,), (3, 4, 5), (1, 2, 3, 4, 5)])
        self.assertEqual([rim_room(FLAT_BOW, 0, 6), rim_cut(FLAT_BOW, 0, 6), rim_room(FLAT_BOW, 0, 1), rim_cut(FLAT_BOW, 2, 6)], [4, (1, 3, 4, 5), None, None])
        # Steps that don't meet have a rim wish all the same; a place stands on both sides of them.
        self.assertEqual([rim_wish(FLAT_BOW, ((0, 1, 2), (3, 5, 4)), 0, 1), rim_wish(FLAT_BOW, ((0, 1, 2), (3, 5, 4)), 1, 2)], [2, 4])
        self.assertEqual(rim_rows(FLAT_FOUR, ((0, 1, 2), (0, 2, 3))), [(0, 1, 12, 3), (0, 2, 6, 5), (1, 2, 10, 2)])

    def test_132_wrong(self):
        wishes = ((0, 3, 2),)
        for value in NOT_FLATS:
            for function in (lambda flat: rim_room(flat, TOUCHY, TOUCHY), lambda flat: rim_cut(flat, TOUCHY, TOUCHY),
                             lambda flat: rim_wish(flat, TOUCHY, TOUCHY, TOUCHY), lambda flat: rim_rows(flat, TOUCHY),
                             lambda flat: rim_over_asked(flat, TOUCHY)):
                with self.assertRaises(InvalidFlat) as caught:
                    function(value)
                self.assertIs(caught.exception.value, value)
        for value in NOT_WISHES + [((0, 3, 1),), ((0, 1, 2), (2, 3, 3)), ((0, 4, 1),)]:
            for function in (lambda asked: rim_wish(FLAT_FOUR, asked, TOUCHY, TOUCHY), lambda asked: rim_rows(FLAT_FOUR, asked),
                             lambda asked: rim_over_asked(FLAT_FOUR, asked)):
                with self.assertRaises(InvalidWishes) as caught:
                    function(value)
                self.assertIs(caught.exception.value, value)
        for value in NOT_STEPS:
            for function in (lambda step, later: rim_room(FLAT_KITE, step, later), lambda step, later: rim_cut(FLAT_KITE, step, later),
                             lambda step, later: rim_wish(FLAT_KITE, wishes, step, later)):
                for step, later in ((value, TOUCHY), (1, value)):
                    with self.assertRaises(InvalidStep) as caught:
                        function(step, later)
                    self.assertIs(caught.exception.value, value)
                for later in (0, 1):
                    with self.assertRaises(InvalidStep):
                        function(1, later)


if __name__ == "__main__":
    unittest.main()
