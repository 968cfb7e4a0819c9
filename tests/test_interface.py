"""The conventions [2], for each function of the interface that there is."""

import copy
import inspect
import unittest

import samples
from calls import CALLS, LISTED, WRONG


def told(call):
    module, name, parameters = call
    return f"{module.__name__}.{name}", getattr(module, name), parameters


def good_values(parameters):
    return [value for _, value, _ in parameters]


def spoil(value):
    """Change all that can be changed in what was returned."""
    if isinstance(value, (list, tuple)):
        for part in value:
            spoil(part)
    if isinstance(value, list):
        value.append("spoilt")


class Interface(unittest.TestCase):
    def test_2_files_and_names_of_parameters(self):
        for call in CALLS:
            name, function, parameters = told(call)
            with self.subTest(name):
                self.assertTrue(inspect.isfunction(function))
                self.assertEqual(function.__module__, call[0].__name__)
                self.assertEqual(function.__name__, call[1])
                self.assertEqual(list(inspect.signature(function).parameters), [row[0] for row in parameters])

    def test_2_by_position_and_by_name(self):
        for call in CALLS:
            name, function, parameters = told(call)
            with self.subTest(name):
                by_name = {row[0]: row[1] for row in reversed(parameters)}
                self.assertEqual(function(*good_values(parameters)), function(**by_name))

    def test_2_first_wrong_parameter_decides(self):
        for call in CALLS:
            name, function, parameters = told(call)
            for at, (_, _, kind) in enumerate(parameters):
                if kind == "any":
                    continue
                error, wrong = WRONG[kind]
                for value in wrong:
                    ahead, behind = good_values(parameters[:at]), good_values(parameters[at + 1:])
                    later = [kept if row[2] == "any" else samples.TOUCHY
                             for kept, row in zip(behind, parameters[at + 1:])]
                    judged = [None if row[2] == "any" else kept for kept, row in zip(behind, parameters[at + 1:])]
                    for rest in (behind, later, judged):
                        with self.subTest(name, at=at, value=repr(type(value))):
                            with self.assertRaises(error) as caught:
                                function(*ahead, value, *rest)
                            self.assertIs(type(caught.exception), error)
                            self.assertIs(caught.exception.value, value)

    def test_2_any_value_is_judged(self):
        for call in CALLS:
            name, function, parameters = told(call)
            for at, (_, good, kind) in enumerate(parameters):
                if kind != "any":
                    continue
                values = good_values(parameters)
                with self.subTest(name):
                    self.assertIs(function(*values), True)
                wrongs = (samples.NOT_WEBS + samples.NOT_WISHES + samples.NOT_RATIOS + samples.NOT_LENGTHS
                          + samples.NOT_DISTANCES + samples.NOT_SHARINGS + samples.NOT_PLANS + samples.NOT_PAPERS
                          + samples.NOT_SURPLUSES + samples.NOT_TURNINGS + samples.NOT_PAIRS + samples.NOT_FLATS
                          + samples.NOT_POINTS + samples.NOT_CIRCUITS)
                for value in wrongs:
                    with self.subTest(name, at=at, value=repr(type(value))):
                        self.assertIs(type(function(*values[:at], value, *values[at + 1:])), bool)

    def test_2_a_tuple_where_a_list_is_passed(self):
        for call in CALLS:
            name, function, parameters = told(call)
            for at, (_, good, kind) in enumerate(parameters):
                if kind in LISTED:
                    values = good_values(parameters)
                    with self.subTest(name):
                        self.assertIsInstance(good, list)
                        self.assertEqual(function(*values[:at], tuple(good), *values[at + 1:]), function(*values))

    def test_2_nothing_that_is_passed_is_changed(self):
        for call in CALLS:
            name, function, parameters = told(call)
            values = good_values(parameters)
            before = copy.deepcopy(values)
            with self.subTest(name):
                function(*values)
                self.assertEqual(values, before)

    def test_2_returned_lists_are_new(self):
        for call in CALLS:
            name, function, parameters = told(call)
            values = good_values(parameters)
            with self.subTest(name):
                first = function(*values)
                kept = copy.deepcopy(first)
                spoil(first)
                self.assertEqual(function(*values), kept)
                self.assertIs(type(function(*values)), type(kept))


if __name__ == "__main__":
    unittest.main()
