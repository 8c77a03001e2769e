"""Rules, what they tell, their numbers, and the rule that stands still (points 5 to 8)."""

import unittest

from helper import ALL_SIGNS, LOWS, MOST_PLACES, NO_SIGNS, WINDOWS, Refusals
from helper import mixed_rule, mixed_table, words_in_order
from rowrules.errors import NoRule
from rowrules.rules import by_number, next_sign, number_by, places, rule, still

NO_WHOLE = [True, False, None, "", "2", "0", [], [2], (2,), {}, 2.0, 0.0]


class TestRule(unittest.TestCase):
    def made(self, signs, low, table):
        for given in (list(table), tuple(table)):
            one = rule(signs, low, given)
            self.assertEqual(one, (signs, low, tuple(table)))
            self.assertEqual([type(part) for part in (one,) + one], [tuple, int, int, tuple])

    def test_every_window_and_low(self):
        for signs, many in WINDOWS:
            for low in LOWS:
                self.made(signs, low, mixed_table(signs, signs ** many))

    def test_the_same_sign_everywhere(self):
        for signs, many in WINDOWS:
            for told in range(signs):
                self.made(signs, -1, [told] * signs ** many)

    def test_a_rule_that_the_document_writes(self):
        self.made(2, -1, [0, 1, 1, 0, 1, 1, 1, 0])

    def test_places(self):
        for signs, many in WINDOWS:
            for low in LOWS:
                self.assertEqual(places(mixed_rule(signs, many, low)), many)
            self.assertEqual(places(rule(signs, 0, [1] * signs ** many)), many)


class TestNoRule(unittest.TestCase):
    def refused(self, signs, low, table):
        with self.subTest((signs, low, table)), self.assertRaises(NoRule):
            rule(signs, low, table)

    def test_wrong_signs(self):
        for signs in NO_WHOLE + [1, 0, -1, -2, 10, 11, 16, 256, 10 ** 299, -(10 ** 299)]:
            for table in ([0], [0, 1], [0] * 4, [0] * 10, [0] * 16, [0] * 100, [0] * 256):
                self.refused(signs, 0, table)
                self.refused(signs, 0, tuple(table))

    def test_wrong_low(self):
        for low in NO_WHOLE:
            self.refused(2, low, [0, 1])
            self.refused(9, low, [0] * 81)

    def test_tables_of_other_kinds(self):
        for table in (None, True, False, 0, 1, 2, "", "01", {}, {0: 0, 1: 1}, {0, 1}, range(2), b"\x00\x01", 2.0):
            self.refused(2, 0, table)

    def test_every_wrong_length(self):
        for signs in ALL_SIGNS:
            lengths = [signs ** many for many in range(1, MOST_PLACES[signs] + 1)]
            for length in range(300):
                if length not in lengths:
                    self.refused(signs, 0, [0] * length)
                    self.refused(signs, 0, (1,) * length)

    def test_tables_above_256_signs(self):
        for signs in ALL_SIGNS:
            length = signs ** (MOST_PLACES[signs] + 1)
            self.assertGreater(length, 256)
            self.refused(signs, 0, [0] * length)
            self.refused(signs, 0, [0] * (length * signs))

    def test_what_is_no_sign_at_any_place(self):
        for signs, many in WINDOWS:
            length = signs ** many
            for wrong in NO_SIGNS + [signs, signs + 1]:
                for at in sorted({0, 1, length // 2, length - 2, length - 1}):
                    table = mixed_table(signs, length)
                    table[at] = wrong
                    self.refused(signs, 0, table)
                    self.refused(signs, 0, tuple(table))

    def test_everything_wrong_at_once(self):
        self.refused(None, None, None)
        self.refused("2", "0", "01")
        self.refused([], [], [])


class TestNextSign(unittest.TestCase):
    def test_each_word_is_told_its_sign(self):
        for signs, many in WINDOWS:
            for low in (0, -3, 10 ** 299):
                one = mixed_rule(signs, many, low)
                words = words_in_order(signs, many)
                self.assertEqual([next_sign(one, word) for word in words], mixed_table(signs, signs ** many))

    def test_a_rule_of_three_places(self):
        one = rule(2, -1, [0, 1, 1, 0, 1, 1, 1, 0])
        self.assertEqual(next_sign(one, [0, 0, 1]), 1)
        self.assertEqual(next_sign(one, [0, 1, 1]), 0)
        self.assertEqual(next_sign(one, [1, 1, 0]), 1)
        self.assertEqual(next_sign(one, [1, 1, 1]), 0)

    def test_the_word_is_left_as_it_was(self):
        word = [1, 0, 1]
        next_sign(mixed_rule(2, 3), word)
        self.assertEqual(word, [1, 0, 1])


class TestNoRow(Refusals):
    def refused_word(self, one, word, at):
        self.refused_at(at, next_sign, one, word)

    def test_whatever_is_no_sign_at_any_place(self):
        for signs, many in WINDOWS:
            one = mixed_rule(signs, many)
            for wrong in NO_SIGNS + [signs, signs + 1]:
                for at in range(many):
                    self.refused_word(one, [0] * at + [wrong] + [1] * (many - at - 1), at)

    def test_the_first_of_several(self):
        one = mixed_rule(3, 4)
        self.refused_word(one, [0, 3, None, True], 1)
        self.refused_word(one, [0, 0, "1", -1], 2)
        self.refused_word(one, [None, 0, 0, []], 0)

    def test_too_short(self):
        for signs, many in WINDOWS:
            for length in range(many):
                self.refused_word(mixed_rule(signs, many), [1] * length, length)

    def test_too_long(self):
        for signs, many in WINDOWS:
            for more in (1, 2, 200):
                self.refused_word(mixed_rule(signs, many), [1] * (many + more), many)

    def test_too_long_with_what_is_no_sign_behind(self):
        for wrong in NO_SIGNS:
            self.refused_word(mixed_rule(2, 2), [0, 1, wrong], 2)
            self.refused_word(mixed_rule(2, 2), [0, 1, 1, wrong], 2)

    def test_what_is_no_sign_goes_ahead_of_the_length(self):
        one = mixed_rule(2, 4)
        self.refused_word(one, [0, 2], 1)
        self.refused_word(one, [None], 0)
        self.refused_word(one, [0, 0, True, 0, 0], 2)
        self.refused_word(one, [0, 0, 0, 2, 0, 2], 3)


class TestNumberBy(unittest.TestCase):
    def test_the_sum_over_the_table(self):
        for signs, many in WINDOWS:
            for low in (0, -2, 10 ** 299):
                table = mixed_table(signs, signs ** many)
                number = sum(told * signs ** k for k, told in enumerate(table))
                self.assertEqual(number_by(rule(signs, low, table)), number)
                self.assertEqual(by_number(signs, low, many, number), (signs, low, tuple(table)))

    def test_numbers_that_are_known(self):
        self.assertEqual(number_by((2, -1, (0, 1, 1, 1, 0, 1, 1, 0))), 110)
        self.assertEqual(by_number(2, -1, 3, 110), (2, -1, (0, 1, 1, 1, 0, 1, 1, 0)))
        self.assertEqual(by_number(2, -1, 3, 30), (2, -1, (0, 1, 1, 1, 1, 0, 0, 0)))
        self.assertEqual(by_number(3, 0, 1, 5), (3, 0, (2, 1, 0)))

    def test_all_small_numbers_both_ways(self):
        for signs, many in ((2, 1), (2, 2), (2, 3), (3, 1), (4, 1)):
            rules = [by_number(signs, -1, many, number) for number in range(signs ** signs ** many)]
            self.assertEqual([number_by(one) for one in rules], list(range(len(rules))))
            self.assertEqual(len(set(rules)), len(rules))

    def test_least_and_greatest(self):
        for signs, many in WINDOWS:
            length = signs ** many
            for number, told in ((0, 0), (signs ** length - 1, signs - 1)):
                one = (signs, 4, (told,) * length)
                self.assertEqual(by_number(signs, 4, many, number), one)
                self.assertEqual(number_by(one), number)

    def test_what_comes_is_a_rule(self):
        one = by_number(3, -(10 ** 299), 2, 100)
        self.assertEqual([type(part) for part in (one,) + one], [tuple, int, int, tuple])
        self.assertEqual(rule(*one), one)
        self.assertIs(type(number_by(one)), int)


class TestByNumberRefuses(unittest.TestCase):
    def refused(self, signs, low, many, number):
        with self.subTest((signs, low, many, number)), self.assertRaises(NoRule):
            by_number(signs, low, many, number)

    def test_numbers_outside(self):
        for signs, many in WINDOWS:
            bound = signs ** signs ** many
            for number in (-1, -bound, bound, bound + 1, bound * signs):
                self.refused(signs, 0, many, number)

    def test_no_whole_number(self):
        for wrong in NO_WHOLE:
            self.refused(2, 0, 1, wrong)
            self.refused(2, 0, wrong, 0)
            self.refused(2, wrong, 1, 0)
            self.refused(wrong, 0, 1, 0)

    def test_no_places_or_too_many(self):
        for signs in ALL_SIGNS:
            for many in (0, -1, -(10 ** 299), MOST_PLACES[signs] + 1, 9, 300, 10 ** 299):
                for number in (0, 1, -1):
                    self.refused(signs, 0, many, number)

    def test_wrong_signs(self):
        for signs in (1, 0, -1, -2, 10, 11, 256, 10 ** 299, -(10 ** 299)):
            for many in (1, 2, 10 ** 299):
                self.refused(signs, 0, many, 0)

    def test_everything_wrong_at_once(self):
        self.refused(None, None, None, None)
        self.refused("2", "0", "1", "0")
        self.refused(True, True, True, True)


class TestStill(unittest.TestCase):
    def test_for_each_number_of_signs(self):
        for signs in ALL_SIGNS:
            one = still(signs)
            self.assertEqual(one, (signs, 0, tuple(range(signs))))
            self.assertEqual(places(one), 1)
            self.assertEqual([next_sign(one, [sign]) for sign in range(signs)], list(range(signs)))
            self.assertEqual([type(part) for part in (one,) + one], [tuple, int, int, tuple])


if __name__ == "__main__":
    unittest.main()
