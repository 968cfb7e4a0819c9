"""Names, commands and deeds, judged by their words alone: [171], [174]."""

import unittest

from samples import NOT_TEXTS, NOT_WEBS, STRANGE, some_traffic
from wishways.commands import is_command, is_deed, is_name
from wishways.printer import traffic_text

LINES = "places 3; tie 0 1 3; tie 1 2 4; wish 0 2 4"
DEEDS = [f"traffic p {LINES}", "tie p 0 1 2", "untie p 0 1", "wish p 0 1 2", "unwish p 0 1", "renumber p 1,0,2", "copy q p", "drop p", "claim k served p",
         "forget k"]
QUESTIONS = ["undo", "redo", "state k", "states", "claimed k", "names", "show p", "same p q", "room p 0 1", "least p 0 1", "over p", "slack p", "share p", "kind p"]
NUMBERS = ["", "-1", "+1", "01", "00", "1000000", "0000001", "a", "1a", "1.", "1 ", " 1", "1\n", chr(0x661), "1_0", "0x1", "1,", "1;", "''"]
NAMES = ["", "P", "1", "1p", "pppppppppp", "p2345678p", "p-", "p_", "p.", "p,q", "p;", chr(233), "p\n", "pP", "\tp", "p" + chr(0x661)]


class Names(unittest.TestCase):
    def test_171_names(self):
        for value in ["p", "a1", "z", "served", "p2345678", "a0000000", "undo", "abcdefgh"]:
            self.assertIs(is_name(value), True)
        for value in NAMES + NOT_TEXTS + STRANGE[:5] + [[], ["a"], ("a",), {"a": 1}, b"a", " p", "p ", "p q"]:
            self.assertIs(is_name(value), False)


class Commands(unittest.TestCase):
    def test_174_all_commands(self):
        for command in DEEDS:
            self.assertEqual([is_command(command), is_deed(command)], [True, True], command)
        for command in QUESTIONS:
            self.assertEqual([is_command(command), is_deed(command)], [True, False], command)

    def test_174_one_blank_between_parts(self):
        for command in DEEDS + QUESTIONS:
            parts = command.split(" ")
            others = [" " + command, command + " ", command + " p", command + "\n", command + ";", command.upper(), command.replace(" ", "  ", 1) + ("" if " " in command else " ")]
            if len(parts) > 1:
                others += [" ".join(parts[:-1]), parts[0], parts[0] + " ", command.replace(" ", "\t", 1), command.replace(" ", "", 1)]
            for other in others:
                self.assertEqual([is_command(other), is_deed(other)], [False, False], other)

    def test_174_names_whatever_is_kept(self):
        for command in ["same p p", "copy p p", "claim p good p", "state p2345678", "drop undo", "show tie", "tie tie 1 2 3", "copy traffic drop"]:
            self.assertIs(is_command(command), True, command)
        for name in NAMES:
            for command in ["show {}", "drop {}", "tie {} 0 1 2", "copy {} p", "copy p {}", "same {} p", "same p {}", "state {}", "forget {}", "claim {} served p",
                            "claim k served {}", "renumber {} 0,1", "room {} 0 1", "traffic {} " + LINES]:
                self.assertIs(is_command(command.format(name)), False, command.format(name))

    def test_174_numbers(self):
        for number in ["0", "1", "9", "10", "999999", "100000"]:
            for command in ["tie p {} 1 2", "tie p 0 {} 2", "tie p 0 0 {}", "untie p {} 0", "untie p 5 {}", "wish p {} 0 0", "wish p 0 0 {}", "unwish p {} {}",
                            "room p {} 0", "least p 0 {}", "renumber p {}", "renumber p 0,{},0"]:
                self.assertIs(is_command(command.replace("{}", number)), True, command)
        for command in ["tie p 0,1 1 2", "tie p 0 1,2 2", "tie p 0 1 2,3", "untie p 0 1,1", "wish p 0 1 1,1", "unwish p 0,1 0", "room p 0,1 0", "least p 0 0,1"]:
            self.assertIs(is_command(command), False, command)
        for number in NUMBERS:
            for command in ["tie p {} 1 2", "tie p 0 {} 2", "tie p 0 1 {}", "untie p {} 1", "untie p 0 {}", "wish p 0 1 {}", "unwish p {} 1", "room p 0 {}",
                            "least p {} 0", "renumber p {}", "renumber p 0,{}", "renumber p {},0", "renumber p 0,{},1"]:
                self.assertIs(is_command(command.format(number)), False, command.format(number))

    def test_174_lists(self):
        for many in range(1, 9):
            self.assertIs(is_command("renumber p " + ",".join(["7"] * many)), True)
        for told in [",".join(["7"] * 9), "", ",", "0,", ",0", "0,,1", "0, 1", "0;1", "[0,1]", "0 1", "0,1,", "0,1 "]:
            self.assertIs(is_command("renumber p " + told), False)

    def test_174_claims(self):
        for word in ["served", "barred", "roomy", "crowded", "good", "bad"]:
            self.assertEqual([is_command(f"claim k {word} p"), is_deed(f"claim k {word} p")], [True, True])
        for word in ["even", "", "Served", "serve", "true", "gone", "served ", "plan"]:
            self.assertIs(is_command(f"claim k {word} p"), False)

    def test_174_lines(self):
        for web, wishes in some_traffic(60, seed=691):
            text = traffic_text(web, wishes)
            lines = "; ".join(text.split("\n")[:-1])
            self.assertEqual([is_command("traffic p " + lines), is_deed("traffic p " + lines)], [True, True])
            for other in (text, lines + ";", lines + "; ", lines.replace("; ", ";"), lines.replace("; ", " ; "), lines.replace("; ", ";\n"), lines.replace("; ", "\n"),
                          lines.replace("; ", ";  "), lines + " # all", lines + "\n", " " + lines, lines.replace(" ", "  "), lines[:-1] + "x", lines[:-2]):
                self.assertIs(is_command("traffic p " + other), False, other)
        for lines in ["places 3; tie 1 0 3; tie 1 2 4; wish 0 2 4", "places 3; tie 1 2 4; tie 0 1 3; wish 0 2 4", "places 3; tie 0 1 3; wish 0 2 4; tie 1 2 4",
                      "places 3; tie 0 1 3; tie 1 2 4", "places 3; tie 0 1 3; wish 0 1 4", "places 3; tie 0 1 3; tie 1 2 21; wish 0 2 4",
                      "places 3; tie 0 1 3; tie 1 2 4; wish 2 0 4", "places 3; tie 0 1 3; tie 1 2 4; wish 0 3 4", "", "places 3", "; ",
                      "places 3; tie 0 1 3; tie 1 2 4; wish 0 2 4; wish 0 1 1"]:
            self.assertIs(is_command("traffic p " + lines), False)

    def test_174_any_value(self):
        for value in STRANGE + NOT_TEXTS + NOT_WEBS + [["undo"], ("undo",), b"undo", "", " ", "x", "undo redo", "undone", "Undo", "traffic", "traffic p", "claim k",
                                                        "un do", "places 3", "kept p", "lines", "attach k p", "begun", "twin"]:
            self.assertIs(is_command(value), False)
            self.assertIs(is_deed(value), False)


if __name__ == "__main__":
    unittest.main()
