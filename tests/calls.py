"""The calls of the interface: each function, its file, and its parameters with a good value and what is wrong for them."""

import samples
from samples import KITE, LINE, RING
from wishways import errors, parser, printer, ratios, rows, tokens, webs

ASK = ((0, 2, 5),)

# The kinds of parameters: the error that is raised, and values for which it is.
WRONG = {
    "any": None,
    "integer": (errors.InvalidInteger, samples.NOT_INTEGERS),
    "ratio": (errors.InvalidRatio, samples.NOT_RATIOS),
    "row": (errors.InvalidRow, samples.NOT_ROWS),
    "ratios": (errors.InvalidRatios, samples.NOT_RATIO_LISTS),
    "text": (errors.InvalidText, samples.NOT_TEXTS),
    "web": (errors.InvalidWeb, samples.NOT_WEBS),
    "wishes": (errors.InvalidWishes, samples.NOT_WISHES),
    "wishes of four": (errors.InvalidWishes, samples.NOT_WISHES + [((0, 4, 1),), ((0, 1, 1), (3, 4, 1))]),
    "place": (errors.InvalidPlace, samples.NOT_PLACES + [4, 5]),
    "many": (errors.InvalidMany, samples.NOT_MANY),
    "ties": (errors.InvalidTies, samples.NOT_TIES),
    "asked": (errors.InvalidRows, samples.NOT_ASKED),
    "order": (errors.InvalidOrder, samples.NOT_ORDERS),
}

# The kinds for which the document says list, so that a tuple is accepted as well.
LISTED = ["ratios", "ties", "asked", "order"]

STAGE_1 = [
    (ratios, "is_ratio", [("value", (1, 2), "any")]),
    (ratios, "made", [("number", 6, "integer"), ("under", -4, "integer")]),
    (ratios, "plus", [("near", (1, 2), "ratio"), ("far", (1, 3), "ratio")]),
    (ratios, "minus", [("near", (1, 2), "ratio"), ("far", (1, 3), "ratio")]),
    (ratios, "times", [("near", (1, 2), "ratio"), ("far", (1, 3), "ratio")]),
    (ratios, "over", [("near", (1, 2), "ratio"), ("far", (1, 3), "ratio")]),
    (ratios, "compared", [("near", (1, 2), "ratio"), ("far", (1, 3), "ratio")]),
    (ratios, "floor_of", [("ratio", (-7, 2), "ratio")]),
    (ratios, "ceiling_of", [("ratio", (-7, 2), "ratio")]),
    (ratios, "ratio_text", [("ratio", (-3, 2), "ratio")]),
    (ratios, "parse_ratio", [("text", "4/2", "text")]),
    (rows, "is_row", [("value", (1,), "any")]),
    (rows, "row_product", [("row", (1, -2), "row"), ("other", (3, 1), "row")]),
    (rows, "row_sum", [("row", (1, -2), "row"), ("other", (3, 1), "row")]),
    (rows, "row_taken", [("row", (1, -2), "row"), ("number", 3, "integer")]),
    (rows, "row_divisor", [("row", (6, -9, 0), "row")]),
    (rows, "row_reduced", [("row", (6, -9, 0), "row")]),
    (rows, "common_under", [("ratios", [(1, 2), (-2, 3)], "ratios")]),
    (rows, "whole_row", [("ratios", [(1, 2), (-2, 3)], "ratios")]),
    (rows, "ratios_of", [("row", (3, -4, 24), "row"), ("under", 6, "integer")]),
    (webs, "is_web", [("value", LINE, "any")]),
    (webs, "is_wishes", [("value", ASK, "any")]),
    (webs, "is_pairs", [("value", ((0, 1),), "any")]),
    (webs, "is_traffic", [("value", LINE, "any"), ("other", ASK, "any")]),
    (webs, "made_web", [("many", 3, "many"), ("ties", [(2, 1, 4), (0, 1, 3)], "ties")]),
    (webs, "made_wishes", [("rows", [(2, 0, 5), (1, 0, 2)], "asked")]),
    (webs, "room_between", [("web", KITE, "web"), ("one", 2, "place"), ("other", 1, "place")]),
    (webs, "neighbours", [("web", KITE, "web"), ("place", 1, "place")]),
    (webs, "room_at", [("web", KITE, "web"), ("place", 1, "place")]),
    (webs, "wish_at", [("web", RING, "web"), ("wishes", ASK, "wishes of four"), ("place", 2, "place")]),
    (webs, "pairs_of", [("wishes", ASK, "wishes")]),
    (webs, "renumbered", [("web", LINE, "web"), ("wishes", ASK, "wishes"), ("order", [1, 0, 2], "order")]),
    (tokens, "tokens", [("text", "places 3", "text")]),
    (parser, "web_of", [("text", "places 2\ntie 0 1 1", "text")]),
    (parser, "traffic_of", [("text", "places 2\ntie 0 1 1\nwish 0 1 2", "text")]),
    (printer, "web_text", [("web", LINE, "web")]),
    (printer, "traffic_text", [("web", LINE, "web"), ("wishes", ASK, "wishes")]),
]

CALLS = STAGE_1
