"""The calls of the interface: each function, its file, and its parameters with a good value and what is wrong for them."""

import samples
from samples import KITE, LINE, RING
from wishways import (apart, cuts, cuttree, errors, flows, leastcuts, parser, printer, ratios, rows, tables, tokens, uncrossing,
                      ways, webs)

ASK = ((0, 2, 5),)
FLOW, TREE = (1, 0, 0, 1, 0), ((0, 1, 3), (1, 2, 3), (2, 3, 3))
TWO, POINT = ("table", ((1, 1), (1, 0)), (4, 3), (3, 2)), ((3, 1), (1, 1))

# The kinds of parameters: the error that is raised, and values for which it is.
WRONG = {
    "any": None,
    "integer": (errors.InvalidInteger, samples.NOT_INTEGERS),
    "ratio": (errors.InvalidRatio, samples.NOT_RATIOS),
    "row": (errors.InvalidRow, samples.NOT_ROWS),
    "ratios": (errors.InvalidRatios, samples.NOT_RATIO_LISTS),
    "text": (errors.InvalidText, samples.NOT_TEXTS),
    "web": (errors.InvalidWeb, samples.NOT_WEBS),
    "wishes": (errors.InvalidWishes, samples.NOT_WISHES),
    "wishes of four": (errors.InvalidWishes, samples.NOT_WISHES + [((0, 4, 1),), ((0, 1, 1), (3, 4, 1))]),
    "place": (errors.InvalidPlace, samples.NOT_PLACES + [4, 5]),
    "many": (errors.InvalidMany, samples.NOT_MANY),
    "ties": (errors.InvalidTies, samples.NOT_TIES),
    "asked": (errors.InvalidRows, samples.NOT_ASKED),
    "order": (errors.InvalidOrder, samples.NOT_ORDERS),
    "place but 0": (errors.InvalidPlace, samples.NOT_PLACES + [4, 5, 0]),
    "cut": (errors.InvalidCut, samples.NOT_CUTS + [(4,), (1, 2, 3, 4)]),
    "side": (errors.InvalidSide, [None, "", (), [], {1}, [0, 1, 2, 3], [1, 1], [4], [True], samples.TOUCHY]),
    "cuts": (errors.InvalidCuts, [None, "", {(1,)}, [()], [(0,)], [(4,)], [[1]], [(1,)] * 13, samples.TOUCHY]),
    "laminar cuts": (errors.InvalidCuts, [None, [(4,)], [(2,), (1,)], [(1,), (1,)], [(1, 2), (2, 3)], samples.TOUCHY]),
    "flow": (errors.InvalidFlow, samples.STRANGE + [[1, 0, 0, 1, 0], (1, 0, 0, 0, 0), (3, 0, 0, 1, 0)]),
    "wish": (errors.InvalidWish, samples.NOT_INTEGERS + [0, 21, -1, 10 ** 39]),
    "tree": (errors.InvalidTree, samples.STRANGE + [list(TREE), TREE[:2], ((0, 1, 3), (0, 2, 3), (0, 3, 3))]),
    "table": (errors.InvalidTable, samples.STRANGE + [list(TWO), TWO[:3]]),
    "point": (errors.InvalidPoint, samples.STRANGE + [list(POINT), ((4, 1), (1, 1))]),
    "way": (errors.InvalidWay, samples.STRANGE + [[0, 1], (0, 3), (0,), (0, 1, 0)]),
}

# The kinds for which the document says list, so that a tuple is accepted as well.
LISTED = ["ratios", "ties", "asked", "order", "side", "cuts", "laminar cuts"]

STAGE_1 = [
    (ratios, "is_ratio", [("value", (1, 2), "any")]),
    (ratios, "made", [("number", 6, "integer"), ("under", -4, "integer")]),
    (ratios, "plus", [("near", (1, 2), "ratio"), ("far", (1, 3), "ratio")]),
    (ratios, "minus", [("near", (1, 2), "ratio"), ("far", (1, 3), "ratio")]),
    (ratios, "times", [("near", (1, 2), "ratio"), ("far", (1, 3), "ratio")]),
    (ratios, "over", [("near", (1, 2), "ratio"), ("far", (1, 3), "ratio")]),
    (ratios, "compared", [("near", (1, 2), "ratio"), ("far", (1, 3), "ratio")]),
    (ratios, "floor_of", [("ratio", (-7, 2), "ratio")]),
    (ratios, "ceiling_of", [("ratio", (-7, 2), "ratio")]),
    (ratios, "ratio_text", [("ratio", (-3, 2), "ratio")]),
    (ratios, "parse_ratio", [("text", "4/2", "text")]),
    (rows, "is_row", [("value", (1,), "any")]),
    (rows, "row_product", [("row", (1, -2), "row"), ("other", (3, 1), "row")]),
    (rows, "row_sum", [("row", (1, -2), "row"), ("other", (3, 1), "row")]),
    (rows, "row_taken", [("row", (1, -2), "row"), ("number", 3, "integer")]),
    (rows, "row_divisor", [("row", (6, -9, 0), "row")]),
    (rows, "row_reduced", [("row", (6, -9, 0), "row")]),
    (rows, "common_under", [("ratios", [(1, 2), (-2, 3)], "ratios")]),
    (rows, "whole_row", [("ratios", [(1, 2), (-2, 3)], "ratios")]),
    (rows, "ratios_of", [("row", (3, -4, 24), "row"), ("under", 6, "integer")]),
    (webs, "is_web", [("value", LINE, "any")]),
    (webs, "is_wishes", [("value", ASK, "any")]),
    (webs, "is_pairs", [("value", ((0, 1),), "any")]),
    (webs, "is_traffic", [("value", LINE, "any"), ("other", ASK, "any")]),
    (webs, "made_web", [("many", 3, "many"), ("ties", [(2, 1, 4), (0, 1, 3)], "ties")]),
    (webs, "made_wishes", [("rows", [(2, 0, 5), (1, 0, 2)], "asked")]),
    (webs, "room_between", [("web", KITE, "web"), ("one", 2, "place"), ("other", 1, "place")]),
    (webs, "neighbours", [("web", KITE, "web"), ("place", 1, "place")]),
    (webs, "room_at", [("web", KITE, "web"), ("place", 1, "place")]),
    (webs, "wish_at", [("web", RING, "web"), ("wishes", ASK, "wishes of four"), ("place", 2, "place")]),
    (webs, "pairs_of", [("wishes", ASK, "wishes")]),
    (webs, "renumbered", [("web", LINE, "web"), ("wishes", ASK, "wishes"), ("order", [1, 0, 2], "order")]),
    (tokens, "tokens", [("text", "places 3", "text")]),
    (parser, "web_of", [("text", "places 2\ntie 0 1 1", "text")]),
    (parser, "traffic_of", [("text", "places 2\ntie 0 1 1\nwish 0 1 2", "text")]),
    (printer, "web_text", [("web", LINE, "web")]),
    (printer, "traffic_text", [("web", LINE, "web"), ("wishes", ASK, "wishes")]),
]

WEB, ONE, OTHER = ("web", KITE, "web"), ("one", 0, "place"), ("other", 3, "place but 0")
WISHES, CUT = ("wishes", ASK, "wishes of four"), ("cut", (1, 2), "cut")
SECOND, CUTS = ("second", (2, 3), "cut"), ("cuts", [(2, 3), (1, 2)], "cuts")
TABLE = ("table", TWO, "table")

STAGE_2 = [
    (cuts, "all_cuts", [WEB]),
    (cuts, "cut_of", [WEB, ("side", [3, 0], "side")]),
    (cuts, "crossing_ties", [WEB, CUT]),
    (cuts, "room_of_cut", [WEB, CUT]),
    (cuts, "wish_of_cut", [WEB, WISHES, CUT]),
    (cuts, "slack", [WEB, WISHES, CUT]),
    (cuts, "over_asked", [WEB, WISHES]),
    (cuts, "tight_cuts", [WEB, WISHES]),
    (cuts, "has_room_everywhere", [WEB, WISHES]),
    (cuts, "least_slack", [WEB, WISHES]),
    (leastcuts, "least_cut", [WEB, ONE, OTHER]),
    (leastcuts, "least_room", [WEB, ONE, OTHER]),
    (leastcuts, "least_cuts", [WEB, ONE, OTHER]),
    (leastcuts, "nearest_cut", [WEB, ONE, OTHER]),
    (leastcuts, "weakest_cut", [WEB]),
    (leastcuts, "is_firm", [WEB, CUT]),
    (leastcuts, "firm_cuts", [WEB]),
    (uncrossing, "cuts_cross", [WEB, CUT, SECOND]),
    (uncrossing, "uncrossed", [WEB, CUT, SECOND]),
    (uncrossing, "is_laminar", [WEB, CUTS]),
    (uncrossing, "made_laminar", [WEB, CUTS]),
    (uncrossing, "holders", [WEB, ("cuts", [(1,), (1, 2), (3,)], "laminar cuts")]),
    (ways, "is_way", [WEB, ("value", (0, 1, 3), "any")]),
    (ways, "ties_of_way", [WEB, ("way", (0, 1, 3), "way")]),
    (flows, "is_flow", [WEB, ONE, OTHER, ("value", FLOW, "any")]),
    (flows, "value_of", [WEB, ONE, OTHER, ("flow", FLOW, "flow")]),
    (flows, "greatest_flow", [WEB, ONE, OTHER]),
    (flows, "is_greatest", [WEB, ONE, OTHER, ("value", (2, 1, 1, 1, 2), "any")]),
    (flows, "flow_plan", [WEB, ONE, OTHER]),
    (flows, "pair_answer", [WEB, ONE, OTHER, ("wish", 2, "wish")]),
    (apart, "ways_apart", [WEB, ONE, OTHER]),
    (apart, "are_apart", [WEB, ONE, OTHER, ("value", [(0, 1, 3), (0, 2, 3)], "any")]),
    (apart, "parting_ties", [WEB, ONE, OTHER]),
    (apart, "do_part", [WEB, ONE, OTHER, ("value", [3, 4], "any")]),
    (cuttree, "is_tree", [WEB, ("value", TREE, "any")]),
    (cuttree, "is_cut_tree", [WEB, ("value", TREE, "any")]),
    (cuttree, "cut_tree", [WEB]),
    (cuttree, "least_by_tree", [WEB, ("tree", TREE, "tree"), ONE, OTHER]),
    (cuttree, "cut_by_tree", [WEB, ("tree", TREE, "tree"), ONE, OTHER]),
    (tables, "is_table", [("value", TWO, "any")]),
    (tables, "is_point", [TABLE, ("value", POINT, "any")]),
    (tables, "is_price_row", [TABLE, ("value", ((2, 1), (1, 1)), "any")]),
    (tables, "is_direction", [("table", ("table", ((1, -1),), (1,), (0, 1)), "table"), ("value", ((0, 1), (1, 1)), "any")]),
    (tables, "is_bar", [("table", ("table", ((1,), (-1,)), (1, -2), (0,)), "table"), ("value", ((1, 1), (1, 1)), "any")]),
    (tables, "is_answer", [TABLE, ("value", ("best", POINT, ((2, 1), (1, 1))), "any")]),
    (tables, "worth_of", [TABLE, ("point", POINT, "point")]),
    (tables, "tight_rows", [TABLE, ("point", POINT, "point")]),
]

CALLS = STAGE_1 + STAGE_2
