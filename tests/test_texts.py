"""Texts of webs and of traffic, read and written: [22], [23], [24]."""

import unittest

from samples import LINE, NOT_TEXTS, NOT_WEBS, NOT_WISHES, WHEEL, plain_joined, some_traffic, some_webs
from wishways.errors import BadText, InvalidText, InvalidWeb, InvalidWishes
from wishways.parser import traffic_of, web_of
from wishways.printer import traffic_text, web_text

TWO = "places 2\ntie 0 1 7\n"


class Reading(unittest.TestCase):
    def wrong(self, function, text):
        with self.assertRaises(BadText, msg=repr(text)) as caught:
            function(text)
        return caught.exception.position

    def both_wrong(self, text, position):
        self.assertEqual(self.wrong(web_of, text), position, repr(text))
        self.assertEqual(self.wrong(traffic_of, text), position, repr(text))

    def test_22_webs(self):
        for text in [TWO, "places 2\ntie 1 0 7", "  places   2  # two\n\n#\n tie 0 1 7# and no more", "places 2#\ntie 1 0 7#\n#"]:
            self.assertEqual(web_of(text), ("web", 2, ((0, 1, 7),)), repr(text))
        self.assertEqual(web_of("places 3\ntie 2 1 4\ntie 0 1 3"), LINE)
        self.assertEqual(web_of("places 2\ntie 0 1 1"), ("web", 2, ((0, 1, 1),)))
        self.assertEqual(web_of("places 2\ntie 0 1 20"), ("web", 2, ((0, 1, 20),)))

    def test_22_traffic(self):
        read = (LINE, ((0, 1, 1), (0, 2, 5)))
        for text in ["places 3\ntie 0 1 3\ntie 1 2 4\nwish 0 1 1\nwish 0 2 5\n",
                     "places 3\nwish 2 0 5\ntie 2 1 4\nwish 1 0 1\ntie 0 1 3", "places 3 # x\n\nwish 0 2 5\nwish 0 1 1\ntie 1 0 3\ntie 1 2 4"]:
            self.assertEqual(traffic_of(text), read, repr(text))
            self.assertIs(type(traffic_of(text)), tuple)

    def test_22_like_places_of_a_tie_and_a_wish(self):
        self.assertEqual(traffic_of(TWO + "wish 1 0 20"), (("web", 2, ((0, 1, 7),)), ((0, 1, 20),)))

    def test_23_i_signs(self):
        for text, position in [("place 2\ntie 0 1 7", 0), ("places 2\ntie 0 1 07", 17), ("places 2\ntie 0 1 7 wishes", 19),
                               ("tie tie\nx", 8), ("places 9\ntie 0 1 7\n?", 19), ("places 2 wish\n-", 14),
                               ("places2", 0), ("places 2\ntie 0 1 " + "1" * 21, 17)]:
            self.both_wrong(text, position)

    def test_23_ii_no_row(self):
        for text in ["", "\n", "  ", "# places 2", " \n#\n\n", "#x\n  "]:
            self.both_wrong(text, len(text))

    def test_23_ii_first_row(self):
        for text, position in [("tie 0 1 7", 0), ("2", 0), ("\n tie 0 1 7\nplaces 2", 2), ("places", 6), ("places\n2", 6),
                               ("places # 2", 7), ("places  ", 8), (" places#", 7), ("places tie", 7), ("places places 2", 7),
                               ("places 2 3", 9), ("places 2 tie 0 1 7", 9), ("places 2 # x\nplaces 2", 13), ("wish 0 1 1", 0)]:
            self.both_wrong(text, position)

    def test_23_ii_further_rows(self):
        for text, position in [("places 2\ntie", 12), ("places 2\ntie\n0 1 7", 12), ("places 2\ntie 0", 14), ("places 2\ntie 0 1", 16),
                               ("places 2\ntie 0 1 # 7", 17), ("places 2\ntie 0 1\n7", 16), ("places 2\ntie 0 1   \n", 19),
                               ("places 2\ntie 0 1#7", 16), ("places 2\ntie 0 tie 7", 15), ("places 2\ntie tie 0 1 7", 13),
                               ("places 2\ntie 0 1 tie", 17), ("places 2\ntie 0 1 7 7", 19), ("places 2\ntie 0 1 7 tie 1 0 7", 19),
                               ("places 2\n0 1 7", 9), ("places 2\ntie 0 1 7\nplaces 2", 19), ("places 2\ntie 0 1 places", 17),
                               ("places 2\nplaces 2\ntie 0 1 7", 9)]:
            self.both_wrong(text, position)

    def test_23_ii_wishes(self):
        self.assertEqual(self.wrong(web_of, TWO + "wish 0 1 1"), 19)
        self.assertEqual(self.wrong(web_of, "places 2\nwish 0 1 1\ntie 0 1 7"), 9)
        self.assertEqual(self.wrong(web_of, "places 2\nwish"), 9)
        for text, position in [(TWO + "wish", 23), (TWO + "wish 0 1", 27), (TWO + "wish 0 1 1 1", 30), (TWO + "wish wish", 24),
                               (TWO + "wish 0 wish 1", 26), (TWO + "wish 0 1\n1", 27), (TWO + "wish 0 1 # 1", 28)]:
            self.assertEqual(self.wrong(traffic_of, text), position, repr(text))

    def test_23_ii_ahead_of_iii(self):
        self.both_wrong("places 9\ntie 0 9 99\ntie", 23)
        self.both_wrong("places 1\ntie 0 1 1 1", 19)
        self.assertEqual(self.wrong(web_of, "places 9\nwish 0 1 1"), 9)

    def test_23_iii_many(self):
        for many, position in [("0", 7), ("1", 7), ("9", 7), ("10", 7), ("9" * 20, 7)]:
            self.both_wrong(f"places {many}\ntie 0 9 99", position)
        for many in range(2, 9):
            text = f"places {many}\n" + "".join([f"tie 0 {place} 1\n" for place in range(1, many)])
            self.assertEqual(web_of(text)[1], many)

    def test_23_iii_places(self):
        for text, position in [("places 2\ntie 2 1 7", 13), ("places 2\ntie 0 2 7", 15), ("places 2\ntie 0 0 7", 15),
                               ("places 2\ntie 5 5 0", 13), ("places 2\ntie 1 1 0", 15), ("places 8\ntie 0 8 1", 15),
                               ("places 3\ntie 0 1 1\ntie 1 0 2", 25), ("places 3\ntie 0 1 1\ntie 0 1 1", 25),
                               ("places 3\ntie 1 0 1\ntie 1 2 1\ntie 0 1 1", 35), ("places 3\ntie 0 1 1\ntie 0 " + "9" * 20 + " 1", 25)]:
            self.both_wrong(text, position)
        for text, position in [(TWO + "wish 2 1 7", 24), (TWO + "wish 0 2 7", 26), (TWO + "wish 1 1 7", 26),
                               (TWO + "wish 0 1 1\nwish 1 0 1", 37), (TWO + "wish 0 1 1\nwish 0 1 1", 37)]:
            self.assertEqual(self.wrong(traffic_of, text), position, repr(text))

    def test_23_iii_rooms_and_wishes(self):
        for room in ["0", "21", "100", "9" * 20]:
            self.both_wrong(f"places 2\ntie 0 1 {room}", 17)
            self.assertEqual(self.wrong(traffic_of, TWO + f"wish 0 1 {room}"), 28)
        for room in ["1", "20"]:
            self.assertEqual(traffic_of(f"places 2\ntie 0 1 {room}\nwish 0 1 {room}"),
                             (("web", 2, ((0, 1, int(room)),)), ((0, 1, int(room)),)))

    def test_23_iii_first_token_decides(self):
        self.both_wrong("places 2\ntie 0 1 0\ntie 0 0 0", 17)
        self.both_wrong("places 3\ntie 0 1 1\ntie 3 1 0", 23)
        self.both_wrong("places 3\ntie 0 1 1\ntie 0 1 0", 25)
        self.assertEqual(self.wrong(traffic_of, "places 2\nwish 0 1 0\ntie 0 0 7"), 18)

    def test_23_iii_fifteenth_tie(self):
        pairs = [(one, other) for one in range(8) for other in range(one + 1, 8)]
        rows = [f"tie {one} {other} 1\n" for one, other in pairs]
        self.assertEqual(len(web_of("places 8\n" + "".join(rows[:14]))[2]), 14)
        begin = "places 8\n" + "".join(rows[:14])
        for last in [rows[14], "tie 0 0 0", "tie 9 9 99", rows[0]]:
            self.both_wrong(begin + last, len(begin))
        self.both_wrong(begin + rows[14] + "tie 9 9 9", len(begin))

    def test_23_iii_seventh_wish(self):
        ties = "places 8\n" + "".join([f"tie 0 {place} 1\n" for place in range(1, 8)])
        rows = [f"wish {place} 0 1\n" for place in range(1, 8)]
        self.assertEqual(len(traffic_of(ties + "".join(rows[:6]))[1]), 6)
        begin = ties + "".join(rows[:6])
        for last in [rows[6], "wish 0 0 0", "wish 9 9 99"]:
            self.assertEqual(self.wrong(traffic_of, begin + last), len(begin))

    def test_23_iv(self):
        for text in ["places 2", "places 2\n", "places 2 # x\n\n", "places 3\ntie 0 1 1", "places 4\ntie 0 1 1\ntie 2 3 1\n#",
                     "places 8\ntie 0 7 1\n"]:
            self.both_wrong(text, len(text))
        for text in [TWO, TWO + "# wish 0 1 1\n", "places 2\nwish 0 1 1\n", "places 3\ntie 0 1 1\nwish 0 2 1\n\n"]:
            self.assertEqual(self.wrong(traffic_of, text), len(text))

    def test_23_cut_off_anywhere(self):
        # Cut off in a word it is wrong where the word begins, elsewhere at its end, unless what is left is a web's text.
        for web in some_webs(14, seed=11):
            text = web_text(web)
            for end in range(len(text) + 1):
                part = text[:end]
                begin = max(part.rfind("\n"), part.rfind(" ")) + 1
                word = part[begin:]
                if word.isalpha() and word not in ("places", "tie"):
                    self.both_wrong(part, begin)
                elif not part.startswith("places ") or not self.has_joined_rows(part, web[1]):
                    self.both_wrong(part, end)
                else:
                    self.assertEqual(web_of(part)[1], web[1])
                    self.assertEqual(self.wrong(traffic_of, part), end)

    def has_joined_rows(self, part, many):
        rows = [row.split() for row in part.split("\n")[1:] if row]
        if any([len(row) < 4 for row in rows]):
            return False
        return plain_joined(range(many), [(int(row[1]), int(row[2])) for row in rows])

    def test_2_no_string(self):
        for value in NOT_TEXTS:
            for function in (web_of, traffic_of):
                with self.assertRaises(InvalidText) as caught:
                    function(value)
                self.assertIs(caught.exception.value, value)


class Writing(unittest.TestCase):
    def test_24_rows(self):
        self.assertEqual(web_text(LINE), "places 3\ntie 0 1 3\ntie 1 2 4\n")
        self.assertEqual(traffic_text(LINE, ((0, 1, 20), (1, 2, 1))), "places 3\ntie 0 1 3\ntie 1 2 4\nwish 0 1 20\nwish 1 2 1\n")
        self.assertEqual(web_text(WHEEL).count("\n"), 15)

    def test_24_read_back(self):
        for web, wishes in some_traffic(80, seed=12):
            self.assertEqual(web_of(web_text(web)), web)
            self.assertEqual(traffic_of(traffic_text(web, wishes)), (web, wishes))
            self.assertTrue(traffic_text(web, wishes).startswith(web_text(web)))

    def test_24_wrong_values(self):
        for value in NOT_WEBS:
            for call in ((web_text, value), (traffic_text, value, None)):
                with self.assertRaises(InvalidWeb) as caught:
                    call[0](*call[1:])
                self.assertIs(caught.exception.value, value)
        for value in NOT_WISHES + [((0, 3, 1),)]:
            with self.assertRaises(InvalidWishes) as caught:
                traffic_text(LINE, value)
            self.assertIs(caught.exception.value, value)


if __name__ == "__main__":
    unittest.main()
