"""Records written and read, and what is none: [164], [165]."""

import unittest

from samples import (BOTH, KITE, NOT_PAPERS, NOT_RECORDS, NOT_SIGNS, NOT_TEXTS, NOT_WEBS, NOT_WISHES, TOUCHY, WHEEL, Numbers, some_traffic, some_wishes)
from wishways.deciding import decided
from wishways.errors import InvalidPaper, InvalidRecord, InvalidText, InvalidWeb, InvalidWishes
from wishways.papers import as_lengths, is_paper
from wishways.printer import traffic_text
from wishways.records import check_of, is_record, read_record, record_of

SIGNS = "\n 0123456789abcdefghijklmnopqrstuvwxyz/-"
TIED, OVER = ("web", 2, ((0, 1, 1),)), ((0, 1, 2),)
FOUR = ((0, 1, 1), (2, 3, 1), (2, 4, 1), (3, 4, 1))
FULL = (((0, 1, 2, 3), (1, 2)), ((0, 1, 3), (1, 1)), ((0, 2, 3), (1, 2)))


def plain_check(text):
    """By adding up: each sign's place times 31 so often as signs stand behind it."""
    return sum([SIGNS.index(sign) * 31 ** (len(text) - 1 - at) for at, sign in enumerate(text)]) % 1000003


def plain_record(web, wishes, paper):
    lines = traffic_text(web, wishes)
    if paper[0] == "plan":
        for way, (number, under) in paper[1]:
            lines += "way " + (f"{number}/{under}" if under > 1 else str(number)) + "".join([f" {place}" for place in way]) + "\n"
    else:
        lines += paper[0] + "".join([f" {number}" for number in paper[1]]) + "\n"
    return lines + f"check {plain_check(lines)}\n"


def checked(text):
    """A text made otherwise, with its own check."""
    return text + f"check {plain_check(text)}\n"


def some_papers():
    rows = [(TIED, OVER, ("cut", (1,))), (KITE, ((0, 3, 2),), ("plan", FULL)), (BOTH, FOUR, ("lengths", (1,) * 6)), (BOTH, FOUR, ("lengths", (10 ** 12,) * 6))]
    for web, wishes in some_traffic(60, seed=681):
        paper = decided(web, wishes)
        rows.append((web, wishes, paper))
        if paper[0] == "cut":
            rows.append((web, wishes, as_lengths(web, wishes, paper)))
        less = tuple([wish[:2] + (1,) for wish in wishes])
        rows.append((web, less, decided(web, less)))
    return rows


ROWS = some_papers()


class Checks(unittest.TestCase):
    def test_164_checks(self):
        numbers = Numbers(682)
        self.assertEqual([check_of(""), check_of("\n"), check_of(" "), check_of("a1"), check_of("-"), check_of("9/z")], [0, 0, 1, 375, 39, 11 * 961 + 38 * 31 + 37])
        for _ in range(200):
            text = "".join([SIGNS[numbers.below(40)] for _ in range(numbers.below(60))])
            self.assertEqual(check_of(text), plain_check(text))
        self.assertEqual(check_of("z" * 20000), plain_check("z" * 20000))

    def test_164_other_signs(self):
        for value in NOT_SIGNS:
            with self.assertRaises(InvalidText) as caught:
                check_of(value)
            self.assertIs(caught.exception.value, value)


class Records(unittest.TestCase):
    def test_164_written_and_read(self):
        words = []
        for web, wishes, paper in ROWS:
            self.assertTrue(is_paper(web, wishes, paper))
            record = record_of(web, wishes, paper)
            self.assertEqual(record, plain_record(web, wishes, paper))
            self.assertIs(is_record(record), True)
            self.assertEqual(read_record(record), (web, wishes, paper))
            words.append(paper[0])
        self.assertGreater(min([words.count(word) for word in ("cut", "lengths", "plan")]), 10)
        self.assertEqual(len({record_of(*row) for row in ROWS}), len(set(ROWS)))

    def test_164_by_hand(self):
        self.assertEqual(record_of(TIED, OVER, ("cut", (1,))), "places 2\ntie 0 1 1\nwish 0 1 2\ncut 1\ncheck 968555\n")
        self.assertEqual(record_of(KITE, ((0, 3, 2),), ("plan", FULL)).split("\n")[6:-2],
                         ["wish 0 3 2", "way 1/2 0 1 2 3", "way 1 0 1 3", "way 1/2 0 2 3"])
        self.assertEqual(record_of(BOTH, FOUR, ("lengths", (1, 1, 1, 1, 1, 1))).split("\n")[-3], "lengths 1 1 1 1 1 1")
        self.assertEqual(record_of(KITE, ((0, 3, 4),), ("cut", (1, 2, 3))).split("\n")[-3], "cut 1 2 3")

    def test_165_one_sign_otherwise(self):
        for row in ROWS[:3] + ROWS[10:40:10]:
            record = record_of(*row)
            for at in range(len(record)):
                for sign in SIGNS + "A#;\t":
                    if sign != record[at]:
                        self.assertFalse(is_record(record[:at] + sign + record[at + 1:]))

    def test_165_left_out_put_in_exchanged(self):
        for row in ROWS[:4] + ROWS[10:60:7]:
            record = record_of(*row)
            for at in range(len(record)):
                self.assertFalse(is_record(record[:at] + record[at + 1:]))
                self.assertFalse(is_record(record[:at]))
                if record[at:at + 2] != record[at:at + 2][::-1]:
                    self.assertFalse(is_record(record[:at] + record[at:at + 2][::-1] + record[at + 2:]))
                for sign in " 0\n1a-":
                    self.assertFalse(is_record(record[:at] + sign + record[at:]))
            self.assertFalse(is_record(record + "\n"))
            self.assertFalse(is_record(record + record))

    def test_165_well_checked_but_no_records(self):
        head = "places 2\ntie 0 1 1\nwish 0 1 2\n"
        self.assertIs(is_record(checked(head + "cut 1\n")), True)
        self.assertIs(is_record(checked(head + "lengths 1\n")), True)
        for text in (head, head + "cut 0\n", head + "cut\n", head + "cut 1 1\n", head + "cut  1\n", head + "cut 1 \n", head + " cut 1\n", head + "cut 01\n", head + "cut 1\n\n",
                     head + "\ncut 1\n", head + "cut 1\ncut 1\n", head + "cut 1\nlengths 1\n", head + "lengths 0\n", head + "lengths 1 1\n", head + "lengths\n",
                     head + "lengths -1\n", head + "lengths 1/1\n", head + "way 1 0 1\n", head + "way 2 0 1\n", head + "way\n", head + "cut 1\nway 1 0 1\n",
                     head + "lengths 1000000000001\n", head + "cuts 1\n", head + "check 0\n", "cut 1\n" + head, "places 2\ntie 1 0 1\nwish 0 1 2\ncut 1\n",
                     "places 2\ntie 0 1 1\nwish 1 0 2\ncut 1\n", "places 2\nwish 0 1 2\ntie 0 1 1\ncut 1\n", "places 2\ntie 0 1 1\ncut 1\n", "cut 1\n", "",
                     "places 2\ntie 0 1 1\ncut 1\nwish 0 1 2\n", "places 2\n tie 0 1 1\nwish 0 1 2\ncut 1\n", "places 9\ntie 0 1 1\nwish 0 1 2\ncut 1\n",
                     head + "cut 1\ncheck 968555\n"):
            self.assertIs(is_record(checked(text)), False, text)
        served = "places 2\ntie 0 1 3\nwish 0 1 2\n"
        for line in ("way 2 0 1\n",):
            self.assertIs(is_record(checked(served + line)), True)
        for line in ("way 4/2 0 1\n", "way 2/1 0 1\n", "way 02 0 1\n", "way -2 0 1\n", "way 2 1 0\n", "way 1 0 1\n", "way 1 0 1\nway 1 0 1\n", "way 2 0\n", "way 2\n",
                     "way  2 0 1\n", "way 2 0 1 \n", "way 2/ 0 1\n", "way 2/0 0 1\n", "way / 0 1\n", "way 2 0 1\ncut 1\n", "way 2 0 1\nplaces 2\n", "way 2 0 00001\n",
                     "way 0 0 1\nway 2 0 1\n", "way 2 0 - 1\n", "way two 0 1\n", "way 2 zero 1\n"):
            self.assertIs(is_record(checked(served + line)), False, line)
        # A check with a needless zero, none, or another word.
        record = record_of(TIED, OVER, ("cut", (1,)))
        for other in (record.replace("check ", "check 0"), record.replace("check ", "check  "), record.replace("check", "checks"), record[:-7], record[:-1] + " \n",
                      record.replace("\ncheck", "check"), "\n" + record, " " + record):
            self.assertIs(is_record(other), False)

    def test_164_any_value(self):
        for value in NOT_RECORDS + NOT_TEXTS + NOT_WEBS:
            self.assertIs(is_record(value), False)
            with self.assertRaises(InvalidRecord) as caught:
                read_record(value)
            self.assertIs(caught.exception.value, value)

    def test_164_wrong(self):
        for value in NOT_WEBS:
            with self.assertRaises(InvalidWeb) as caught:
                record_of(value, TOUCHY, TOUCHY)
            self.assertIs(caught.exception.value, value)
        for value in NOT_WISHES + [((0, 4, 1),)]:
            with self.assertRaises(InvalidWishes) as caught:
                record_of(KITE, value, TOUCHY)
            self.assertIs(caught.exception.value, value)
        for wishes in (((0, 3, 3),), ((0, 3, 4),)):
            for value in NOT_PAPERS:
                with self.assertRaises(InvalidPaper) as caught:
                    record_of(KITE, wishes, value)
                self.assertIs(caught.exception.value, value)

    def test_164_of_great_webs(self):
        numbers = Numbers(683)
        for _ in range(5):
            wishes = some_wishes(numbers, 8)
            record = record_of(WHEEL, wishes, decided(WHEEL, wishes))
            self.assertEqual(read_record(record), (WHEEL, wishes, decided(WHEEL, wishes)))


if __name__ == "__main__":
    unittest.main()
