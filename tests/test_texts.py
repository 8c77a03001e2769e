"""Rules and words as texts (point 34)."""

import unittest

from helper import ALL_SIGNS, LOWS, WINDOWS, Refusals
from helper import mixed_rule, mixed_word, shift, some_rules, words_in_order
from rowrules.errors import NoText
from rowrules.rules import rule
from rowrules.texts import read_rule, read_word, show_rule, show_word

NO_TEXTS = [None, True, 0, 110, 1.5, [], ["2:0:01"], ("2:0:01",), {}, [0, 1], (2, 0, (0, 1)), b"2:0:01"]
# Figures and letters of other scripts, which Python takes for figures in some calls.
OTHER_FIGURES = ["\u0661", "\u00b2", "\u2460", "\uff11", "\u0be7"]
GOOD = "2:-1:01101110"


class TestShowRule(unittest.TestCase):
    def test_by_hand(self):
        self.assertEqual(show_rule((2, -1, (0, 1, 1, 0, 1, 1, 1, 0))), GOOD)
        self.assertEqual(show_rule((9, 0, tuple(range(9)))), "9:0:012345678")
        self.assertEqual(show_rule((3, 10 ** 60, (2, 1, 0))), "3:1" + "0" * 60 + ":210")

    def test_as_it_is_told_not_by_its_narrowest_window(self):
        self.assertEqual(show_rule((2, 4, (0, 0, 1, 1))), "2:4:0011")
        self.assertEqual(show_rule((2, 4, (1, 1))), "2:4:11")

    def test_each_is_a_text_of_its_own(self):
        rules = [one for signs, many in WINDOWS for one in some_rules(signs, many, -3)]
        self.assertEqual(len({show_rule(one) for one in rules}), len(set(rules)))


class TestReadRule(Refusals):
    def test_by_hand(self):
        self.assertEqual(read_rule(GOOD), (2, -1, (0, 1, 1, 0, 1, 1, 1, 0)))
        self.assertEqual(read_rule("3:0:021"), (3, 0, (0, 2, 1)))
        self.assertEqual(read_rule("4:-90:0000"), (4, -90, (0, 0, 0, 0)))
        self.assertEqual(type(read_rule(GOOD)[2]), tuple)

    def test_there_and_back(self):
        for signs, many in WINDOWS:
            for low in (0, 1, -1, 10, -305, 10 ** 59, 1 - 10 ** 60, 10 ** 60 - 1):
                for one in some_rules(signs, many, low) + [mixed_rule(signs, many, low)]:
                    self.assertEqual(read_rule(show_rule(one)), one)
                    self.assertEqual(rule(*read_rule(show_rule(one))), one)

    def test_low_of_one_to_sixty_figures(self):
        for figures in range(1, 61):
            for low in (10 ** (figures - 1), 10 ** figures - 1, -(10 ** (figures - 1)), 1 - 10 ** figures):
                self.assertEqual(read_rule(f"2:{low}:10"), (2, low, (1, 0)))
                self.assertEqual(show_rule((2, low, (1, 0))), f"2:{low}:10")

    def test_low_of_more_figures_is_written_and_not_read(self):
        for low in [10 ** 60, -(10 ** 60), 10 ** 61 - 1] + [low for low in LOWS if abs(low) >= 10 ** 60]:
            self.assertEqual(show_rule((2, low, (1, 0))), f"2:{low}:10")
            self.refused(NoText, read_rule, show_rule((2, low, (1, 0))))

    def test_how_low_is_not_written(self):
        for low in ("", "-", "-0", "00", "01", "-01", "000", "0" * 60, "+1", "+0", " 1", "1 ", "- 1", "1-", "--1", "1_0",
                    "1.0", "1e3", "0x1", "a", "-a", "1\n", "\n1", "-1\n", "1\t", "0-", "-00"):
            self.refused(NoText, read_rule, f"2:{low}:01")
        for figure in OTHER_FIGURES:
            self.refused(NoText, read_rule, f"2:{figure}:01")
            self.refused(NoText, read_rule, f"2:1{figure}:01")

    def test_how_signs_are_not_written(self):
        for signs in ("", "0", "1", "02", "10", "12", "22", "-2", "+2", " 2", "2 ", "a", "-", "2\n", "\n2", "2.0"):
            for table in ("01", "0", "0110", "0000000000"):
                self.refused(NoText, read_rule, f"{signs}:0:{table}")
        for figure in OTHER_FIGURES + ["\uff12"]:
            self.refused(NoText, read_rule, f"{figure}:0:01")

    def test_how_the_table_is_not_written(self):
        for table in ("", "0", "1", "011", "01101", "2", "02", "21", "0a", "a", "-", "-01", "0 1", " 01", "01 ", "+1",
                      "01\n", "\n01", "0\n1", "0,1", "0" * 255, "0" * 257, "0" * 390, "09"):
            self.refused(NoText, read_rule, f"2:0:{table}")
        for figure in OTHER_FIGURES:
            self.refused(NoText, read_rule, f"2:0:0{figure}")
        for signs in ALL_SIGNS:
            self.refused(NoText, read_rule, f"{signs}:0:{signs}" + "0" * (signs - 1))
            self.refused(NoText, read_rule, f"{signs}:0:" + "0" * (signs - 1) + str(signs))
            self.refused(NoText, read_rule, f"{signs}:0:" + "0" * (signs - 1))
            self.refused(NoText, read_rule, f"{signs}:0:" + "0" * (signs + 1))
        self.refused(NoText, read_rule, "3:0:" + "0" * 256)
        self.refused(NoText, read_rule, "7:0:" + "0" * 343)

    def test_too_many_or_too_few_colons(self):
        for text in ("", ":", "::", ":::", "2", "2:0", "2:01", "2:0:01:", ":2:0:01", "2::01", "2:0::01", "2:0:0:1", "201",
                     "2;0;01", "2:0;01"):
            self.refused(NoText, read_rule, text)

    def test_each_sign_spoiled(self):
        for at in range(len(GOOD) + 1):
            for wrong in (" ", "\n", "+", "a", ".", "_", "~"):
                self.refused(NoText, read_rule, GOOD[:at] + wrong + GOOD[at + 1:])
                self.refused(NoText, read_rule, GOOD[:at] + wrong + GOOD[at:])
            self.refused(NoText, read_rule, GOOD[:at] + ":" + GOOD[at:])
        for at in range(len(GOOD)):
            if at != 9 and at != 7:
                self.refused(NoText, read_rule, GOOD[:at])

    def test_what_is_no_text(self):
        for thing in NO_TEXTS:
            self.refused(NoText, read_rule, thing)


class TestWords(Refusals):
    def test_by_hand(self):
        self.assertEqual(read_word("0120"), [0, 1, 2, 0])
        self.assertEqual(show_word([0, 1, 2, 0]), "0120")
        self.assertEqual(read_word("8"), [8])
        self.assertEqual(read_word("-"), [])
        self.assertEqual(show_word([]), "-")

    def test_there_and_back(self):
        for signs in ALL_SIGNS:
            for length in (0, 1, 2):
                for word in words_in_order(signs, length):
                    self.assertEqual(read_word(show_word(word)), word)
            for length in (3, 299, 300, 400):
                self.assertEqual(read_word(show_word(mixed_word(signs, length))), mixed_word(signs, length))
                self.assertEqual(len(show_word(mixed_word(signs, length))), length)

    def test_what_writes_no_word(self):
        for text in ("", "9", "09", "90", "0190", "--", "-0", "0-", "-1", " ", " 0", "0 ", "0 1", "\n", "0\n", "-\n", "\n-",
                     " -", "- ", "+1", "a", "0a", "0,1", "0.1", "1_0", "[0]", ":"):
            self.refused(NoText, read_word, text)
        for figure in OTHER_FIGURES:
            self.refused(NoText, read_word, figure)
            self.refused(NoText, read_word, "0" + figure)

    def test_what_is_no_text(self):
        for thing in NO_TEXTS:
            self.refused(NoText, read_word, thing)

    def test_what_is_told_is_the_askers_own(self):
        early = read_word("01")
        read_word("01").append(7)
        read_word("-").append(7)
        self.assertEqual((early, read_word("01"), read_word("-")), ([0, 1], [0, 1], []))
        word = [0, 1]
        self.assertEqual((show_word(word), word), ("01", [0, 1]))
        self.assertEqual(show_rule(shift(2, 0)), show_rule(shift(2, 0)))


if __name__ == "__main__":
    unittest.main()
