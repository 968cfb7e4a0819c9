"""The errors of the interface: what each derives from, and what it keeps."""

import inspect
import unittest

from samples import TOUCHY
from wishways import errors

BASES = {"WayError": ValueError, "MissingError": LookupError, "StateError": RuntimeError, "LimitError": ArithmeticError}
VALUES = """InvalidInteger InvalidRatio InvalidPlace InvalidWeb InvalidWishes InvalidPairs InvalidCut InvalidPlan
    InvalidLengths InvalidText InvalidMany InvalidPosition InvalidCircuit InvalidCommand InvalidCuts InvalidFlat
    InvalidFlow InvalidLot InvalidMarks InvalidOrder InvalidPacking InvalidPaper InvalidPlaces InvalidPoint
    InvalidPoints InvalidPrices InvalidRatios InvalidRecord InvalidRow InvalidRows InvalidSharing InvalidSide
    InvalidStep InvalidSurplus InvalidTable InvalidTies InvalidTolls InvalidTree InvalidTurning InvalidWay
    InvalidWish""".split()
ATTRIBUTES = {name: ("WayError", ["value"]) for name in VALUES}
ATTRIBUTES.update({name: ("WayError", ["position"]) for name in ["BadText", "InvalidDeeds"]})
ATTRIBUTES.update({"NoTie": ("MissingError", ["one", "other"]), "UnknownLabel": ("MissingError", ["value"]),
                   "UnknownName": ("MissingError", ["value"]), "CommandFailed": ("StateError", ["position"]),
                   "LabelTaken": ("StateError", ["label"]), "NameTaken": ("StateError", ["name"]),
                   "OddPlace": ("StateError", ["place"]), "TooMany": ("LimitError", ["what", "limit"])})
ATTRIBUTES.update({name: ("StateError", []) for name in [
    "GoodPairs", "NoHubs", "NoPoint", "NoQuotient", "NoWish", "NotGood", "NotInner", "NotInnerEven", "NotTied",
    "NotTwo", "NothingToRedo", "NothingToUndo", "UnlikeLengths"]})


class Errors(unittest.TestCase):
    def test_bases(self):
        for name, base in BASES.items():
            self.assertEqual(getattr(errors, name).__bases__, (base,), name)
        for name, (base, _) in ATTRIBUTES.items():
            self.assertEqual(getattr(errors, name).__bases__, (getattr(errors, base),), name)

    def test_no_other_classes(self):
        there = [name for name, value in vars(errors).items() if inspect.isclass(value)]
        self.assertEqual(sorted(there), sorted(list(BASES) + list(ATTRIBUTES)))
        for name in there:
            self.assertEqual(getattr(errors, name).__module__, "wishways.errors")

    def test_attributes_by_position_and_by_name(self):
        for name, (_, attributes) in ATTRIBUTES.items():
            for values in ([TOUCHY] * len(attributes), [["a"], {"b": 1}][:len(attributes)]):
                made = getattr(errors, name)
                for error in (made(*values), made(**dict(zip(attributes, values)))):
                    for attribute, value in zip(attributes, values):
                        self.assertIs(getattr(error, attribute), value, name)
                    with self.assertRaises(getattr(errors, name)):
                        raise error


if __name__ == "__main__":
    unittest.main()
