"""The guarantees of [4], over the whole program: each answer against a plain look, and against what other modules tell."""

import unittest

from samples import (Numbers, asked_by, does_fit, does_serve, fraction, is_sound, plain_had, plain_spent, some_pairs, some_rim_traffic,
                     some_traffic, some_webs)
from test_fourplaces import over
from test_kinds import PAIRS
from test_oddlots import some_odd
from wishways.barwebs import bar_traffic, enough
from wishways.cheapest import cheapest, plan_cost, tolls_worth
from wishways.cuttree import cut_tree, least_by_tree
from wishways.deciding import decided, is_served, reason, share_paper
from wishways.desk import begun
from wishways.fourplaces import told_by_cuts
from wishways.kinds import kind_of
from wishways.leastcuts import least_room
from wishways.oddcuts import least_odd_cut, level_packing, packing_worth
from wishways.oddlots import least_lot_length
from wishways.papers import is_paper
from wishways.parser import traffic_of
from wishways.printer import traffic_text
from wishways.records import read_record, record_of
from wishways.rimways import rim_paper
from wishways.served import barring_lengths, serving_plan, share
from wishways.twopairs import is_even, two_answer
from wishways.webs import pairs_of

GOOD = ("hubs", "four", "ring")
TRAFFIC = some_traffic(150, seed=731)


class Guarantees(unittest.TestCase):
    def test_4_served_or_barred(self):
        seen = []
        for web, wishes in TRAFFIC + [(web, tuple([wish[:2] + (1,) for wish in wishes])) for web, wishes in TRAFFIC]:
            plan, lengths = serving_plan(web, wishes), barring_lengths(web, wishes)
            self.assertEqual(plan is None, lengths is not None)
            served = plan is not None
            if served:
                self.assertTrue(is_sound(web, wishes, plan) and does_fit(web, plan) and does_serve(wishes, plan))
            else:
                self.assertGreater(plain_spent(web, wishes, lengths), plain_had(web, lengths))
            self.assertEqual([is_served(web, wishes), fraction(share(web, wishes)) >= 1, reason(web, wishes) == "plan", cheapest(web, wishes, (1,) * len(web[2]))[0] == "cheapest"],
                             [served] * 4)
            seen.append(served)
        self.assertGreater(min(seen.count(True), seen.count(False)), 50)

    def test_4_cuts_are_enough_exactly_then(self):
        numbers = Numbers(732)
        for web in some_webs(90, seed=733):
            pairs = some_pairs(numbers, web[1])
            wishes = asked_by(numbers, pairs, 3)
            if kind_of(pairs)[0] in GOOD:
                self.assertEqual(enough(pairs)[0], "good")
                self.assertIs(is_served(web, wishes), over(web, wishes) == [])
                self.assertEqual(told_by_cuts(web, wishes)[0], "plan" if over(web, wishes) == [] else "cut")
        for pairs in PAIRS[::25]:
            if kind_of(pairs)[0] not in GOOD:
                web, wishes = bar_traffic(pairs)
                self.assertEqual([over(web, wishes), is_served(web, wishes), reason(web, wishes), enough(pairs)[0]], [[], False, "lengths", "bad"])

    def test_4_halves_and_wholes(self):
        numbers = Numbers(734)
        for flat, wishes in some_rim_traffic(60, seed=735):
            web, most = flat[1], 1 if is_even(flat[1], wishes) else 2
            papers = [rim_paper(flat, wishes)]
            if len(wishes) == 2:
                papers.append(two_answer(web, wishes))
            if kind_of(pairs_of(wishes))[0] == "hubs":
                papers.append(told_by_cuts(web, wishes))
            self.assertEqual(len({paper[0] for paper in papers}), 1)
            for paper in papers:
                self.assertTrue(is_paper(web, wishes, paper))
                if paper[0] == "plan":
                    self.assertLessEqual(max([ratio[1] for _, ratio in paper[1]]), most)
        for web in some_webs(60, seed=736):
            places, lengths = some_odd(numbers, web[1]), tuple([numbers.below(9) for _ in web[2]])
            packing = level_packing(web, lengths, places)
            self.assertTrue(all([ratio[1] <= 2 for _, ratio in packing]))

    def test_4_plain_and_clever(self):
        numbers = Numbers(737)
        for web, wishes in TRAFFIC[:60]:
            tree = cut_tree(web)
            for one, other, _ in wishes:
                self.assertEqual(least_by_tree(web, tree, one, other), least_room(web, one, other))
            places, lengths = some_odd(numbers, web[1]), tuple([numbers.below(9) for _ in web[2]])
            self.assertEqual(packing_worth(web, lengths, places, level_packing(web, lengths, places)), (least_lot_length(web, lengths, places), 1))
            self.assertEqual(least_odd_cut(web, places) is None, places == ())

    def test_4_one_paper_led_on(self):
        # A record of what was decided, read back, told on a desk: all say the same.
        for web, wishes in TRAFFIC[::3]:
            paper = decided(web, wishes)
            self.assertEqual(traffic_of(traffic_text(web, wishes)), (web, wishes))
            self.assertEqual(read_record(record_of(web, wishes, paper)), (web, wishes, paper))
            lines = "; ".join(traffic_text(web, wishes).split("\n")[:-1])
            desk = begun([f"traffic p {lines}", "claim s served p", "claim r roomy p", "claim g good p"])
            self.assertIsNone(desk.attach("s", paper))
            self.assertEqual([desk.fits("s"), desk.do("state s"), desk.do("state r"), desk.do("state g")],
                             [True, "true" if paper[0] == "plan" else "false", "false" if paper[0] == "cut" else "true",
                              "true" if kind_of(pairs_of(wishes))[0] in GOOD else "false"])
            self.assertEqual(share_paper(web, wishes)[1], share(web, wishes))

    def test_4_cheapest_among_plans(self):
        numbers = Numbers(738)
        for web, wishes in TRAFFIC:
            less = tuple([wish[:2] + (1,) for wish in wishes])
            prices = tuple([numbers.below(1001) for _ in web[2]])
            paper = cheapest(web, less, prices)
            if paper[0] == "cheapest":
                cost = plan_cost(web, less, paper[1], prices)
                self.assertEqual(tolls_worth(web, less, prices, paper[2]), cost)
                self.assertLessEqual(fraction(cost), fraction(plan_cost(web, less, serving_plan(web, less), prices)))


if __name__ == "__main__":
    unittest.main()
