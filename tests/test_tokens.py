"""Tokens of texts: [22], [23] (i)."""

import unittest

from samples import NOT_TEXTS
from wishways.errors import BadText, InvalidText
from wishways.tokens import tokens

NINES = "9" * 20


class Tokens(unittest.TestCase):
    def test_22_rows(self):
        for text, rows in [
                ("", []), ("\n", []), ("   \n \n", []), ("# all of it", []), ("#\n #a\n", []), ("places", [[("places", 0)]]),
                ("tie", [[("tie", 0)]]), (" wish ", [[("wish", 1)]]), ("0", [[("0", 0)]]), ("7 0 10", [[("7", 0), ("0", 2), ("10", 4)]]),
                ("tie\ntie", [[("tie", 0)], [("tie", 4)]]), ("\n\n  tie  0\n\nwish\n", [[("tie", 4), ("0", 9)], [("wish", 12)]]),
                ("tie#0", [[("tie", 0)]]), ("5#", [[("5", 0)]]), ("5 # x % Y 007 a1\n6", [[("5", 0)], [("6", 17)]]),
                ("tie tie 3 places", [[("tie", 0), ("tie", 4), ("3", 8), ("places", 10)]]), ("# # 1\n1 # 2 # 3", [[("1", 6)]])]:
            self.assertEqual(tokens(text), rows, repr(text))

    def test_22_twenty_digits(self):
        self.assertEqual(tokens(NINES), [[(NINES, 0)]])
        self.assertEqual(tokens("1" + "0" * 19), [[("1" + "0" * 19, 0)]])
        for text in [NINES + "9", "1" + "0" * 20, NINES + NINES]:
            self.assertEqual(self.wrong(text), 0)
            self.assertEqual(self.wrong("tie " + text), 4)

    def test_22_kinds(self):
        self.assertIs(type(tokens("tie 0")), list)
        self.assertIs(type(tokens("tie 0")[0]), list)
        self.assertEqual([type(token) for token in tokens("tie 0")[0]], [tuple, tuple])
        self.assertEqual([type(part) for part in tokens("tie 0")[0][1]], [str, int])

    def test_23_first_sign_that_begins_no_token(self):
        for text, position in [
                ("a", 0), ("tied", 0), ("ties 1", 0), ("ti", 0), ("placeswish", 0), ("tie wis", 4), ("tie wishe", 4), ("Tie", 0),
                ("tiE", 0), ("tie0", 0), ("0tie", 0), ("0a", 0), ("1 2x", 2), ("places3", 0), ("places 3tie", 7), ("00", 0),
                ("01", 0), ("0 00", 2), ("1 007", 2), ("-1", 0), ("1-", 1), ("1,2", 1), ("1.5", 1), ("tie\t0", 3), ("tie!", 3),
                ("tie_0", 3), ("(", 0), ("tie\n x", 5), ("# x\nx", 4), ("5 % 3", 2), ("tie 0 A # B", 6), ("x y", 0), ("~", 0),
                ("tie {", 4), ("tie `", 4), ("tie /", 4), ("tie :", 4), ("0:", 1), ("tie{", 3), ("1/", 1), ("tie#\n#\n  q", 9),
                ("5z", 0), ("5zz", 0), ("tiez", 0), ("tie9x", 0), ("tie9", 0), ("tie 0 z", 6)]:
            self.assertEqual(self.wrong(text), position, repr(text))

    def test_23_every_sign(self):
        for sign in [chr(number) for number in range(ord(" "), ord("~") + 1)] + ["\n"]:
            text = "tie " + sign
            if sign in " \n#":
                self.assertEqual(tokens(text), [[("tie", 0)]])
            elif sign in "0123456789":
                self.assertEqual(tokens(text), [[("tie", 0), (sign, 4)]])
            else:
                self.assertEqual(self.wrong(text), 4, sign)

    def test_2_no_string(self):
        for value in NOT_TEXTS:
            with self.assertRaises(InvalidText) as caught:
                tokens(value)
            self.assertIs(caught.exception.value, value)

    def wrong(self, text):
        with self.assertRaises(BadText, msg=text) as caught:
            tokens(text)
        return caught.exception.position


if __name__ == "__main__":
    unittest.main()
