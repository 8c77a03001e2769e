"""The frame of a rule, its nodes, sets of nodes and the steps between them (points 20 and 21)."""

import unittest

from helper import ALL_SIGNS, LARGE_WINDOWS, LOWS, SMALL_WINDOWS, Refusals
from helper import frame_by_hand, large_rule, places_by, rule_of, some_rules, stretch_led, sum_rule, tables_in_order
from helper import told_by, words_in_order
from rowrules.errors import TooWide
from rowrules.forms import narrow, widened
from rowrules.frames import everything, frame, nodes, step
from rowrules.rules import number_by, rule, still
from rowrules.words import number_of

BOUND = [(2, 4, 8), (3, 3, 9), (4, 2, 4), (5, 2, 5), (6, 2, 6), (7, 2, 7), (8, 2, 8), (9, 2, 9)]
ABOVE = [(2, 5), (3, 4), (4, 3), (5, 3), (6, 3)]


def as_set(found):
    return sum(2 ** node for node in set(found))


def step_by_hand(framed, some, sign):
    many = places_by(framed) - 1
    return as_set(
        number_of(word[1:], framed[0])
        for word in words_in_order(framed[0], many + 1)
        if some // 2 ** number_of(word[:many], framed[0]) % 2 == 1 and told_by(framed, word) == sign
    )


def ends_by_hand(framed, row):
    many = places_by(framed) - 1
    return as_set(
        number_of(word[len(row):], framed[0])
        for word in words_in_order(framed[0], many + len(row))
        if stretch_led(framed, word) == row
    )


class TestFrame(unittest.TestCase):
    def test_any_table(self):
        for signs, many in SMALL_WINDOWS:
            for low in LOWS:
                for one in some_rules(signs, many, low):
                    self.assertEqual(frame(one), frame_by_hand(one))

    def test_every_table_of_some_windows(self):
        for signs, many in ((2, 1), (2, 2), (2, 3), (3, 1)):
            for table in tables_in_order(signs, many):
                self.assertEqual(frame((signs, -2, table)), frame_by_hand((signs, -2, table)))

    def test_one_place_counts(self):
        for signs in ALL_SIGNS:
            table = tuple(sign for sign in range(signs) for k in range(signs))
            for low in LOWS:
                self.assertEqual(frame((signs, low, tuple(range(signs)))), (signs, low, table))
                self.assertEqual(frame(widened((signs, low, tuple(range(signs))), low - 1, low)), (signs, low, table))
                self.assertEqual(frame(widened((signs, low, tuple(range(signs))), low, low + 1)), (signs, low, table))

    def test_no_place_counts(self):
        for signs in ALL_SIGNS:
            for low in LOWS:
                self.assertEqual(frame((signs, low, (1,) * signs)), (signs, 0, (1,) * signs ** 2))
                self.assertEqual(frame((signs, low, (0,) * signs ** 2)), (signs, 0, (0,) * signs ** 2))
        self.assertEqual(frame((2, 5, (1,) * 256)), (2, 0, (1,) * 4))

    def test_several_places_count(self):
        for low in LOWS:
            one = (2, low, (0, 1, 1, 1, 0, 1, 1, 0))
            self.assertEqual(frame(one), one)
            self.assertEqual(frame(sum_rule(3, low, 2, [0, 1])), sum_rule(3, low, 2, [0, 1]))

    def test_a_place_in_the_middle_that_does_not_count(self):
        self.assertEqual(frame(sum_rule(2, 0, 6, [1, 3])), (2, 1, (0, 1, 0, 1, 1, 0, 1, 0)))
        self.assertEqual(frame(sum_rule(2, -9, 8, [4, 7])), sum_rule(2, -5, 4, [0, 3]))
        self.assertEqual(frame(sum_rule(3, 0, 5, [2, 4])), sum_rule(3, 2, 3, [0, 2]))

    def test_wide_windows(self):
        self.assertEqual(frame(widened(still(2), -3, 4)), (2, 0, (0, 0, 1, 1)))
        self.assertEqual(frame(widened((2, 0, (0, 1, 1, 0)), -6, 1)), (2, 0, (0, 1, 1, 0)))
        self.assertEqual(frame(widened(still(6), 0, 2)), widened(still(6), 0, 1))
        self.assertEqual(frame(sum_rule(5, 4, 3, [1, 2])), sum_rule(5, 5, 2, [0, 1]))

    def test_a_frame_is_a_rule_and_its_own_frame(self):
        for signs, many in SMALL_WINDOWS:
            for one in some_rules(signs, many, 3):
                told = frame(one)
                self.assertEqual(rule(*told), told)
                self.assertEqual(frame(told), told)
                self.assertEqual(narrow(told), narrow(one))


class TestNodes(Refusals):
    def test_each_number_of_signs_and_places(self):
        for signs, many in SMALL_WINDOWS:
            one = large_rule(signs, many, -1)
            count = signs ** (max(many, 2) - 1)
            self.assertEqual(nodes(one), count)
            self.assertEqual(everything(one), 2 ** count - 1)
            self.assertEqual(places_by(frame(one)), max(many, 2))

    def test_by_the_frame_not_by_the_window(self):
        for signs in ALL_SIGNS:
            self.assertEqual(nodes((signs, 3, (1,) * signs)), signs)
            self.assertEqual(everything((signs, 3, (1,) * signs)), 2 ** signs - 1)
        self.assertEqual(nodes((2, 0, (1,) * 256)), 2)
        self.assertEqual(everything(widened(still(3), -2, 2)), 7)
        self.assertEqual(nodes(sum_rule(2, 0, 8, [3, 5])), 4)

    def test_the_bound_and_just_above_it(self):
        for signs, many, count in BOUND:
            self.assertEqual(nodes(large_rule(signs, many)), count)
        for signs, many in ABOVE:
            for call in (frame, nodes, everything):
                self.refused(TooWide, call, large_rule(signs, many))
            for some in (0, 1, 511):
                self.refused(TooWide, step, large_rule(signs, many), some, 0)

    def test_rules_that_are_not_small(self):
        self.assertEqual(ABOVE, [window for window in LARGE_WINDOWS if (window[0], window[1] - 1) not in LARGE_WINDOWS])
        for signs, many in LARGE_WINDOWS:
            for low in LOWS:
                for call in (frame, nodes, everything):
                    self.refused(TooWide, call, large_rule(signs, many, low))
                self.refused(TooWide, step, large_rule(signs, many, low), 0, 1)
        self.refused(TooWide, frame, sum_rule(2, 0, 5, [0, 4]))
        self.refused(TooWide, nodes, sum_rule(2, 0, 7, [1, 5]))
        self.refused(TooWide, everything, sum_rule(3, 0, 4, [0, 3]))
        self.refused(TooWide, step, sum_rule(4, 0, 3, [0, 2]), 1, 1)


class TestStep(unittest.TestCase):
    def test_from_all_nodes_from_single_ones_and_from_none(self):
        for signs, many in SMALL_WINDOWS:
            for one in some_rules(signs, many, -1) + [sum_rule(signs, 4, many, range(many)), large_rule(signs, many)]:
                framed = frame_by_hand(one)
                count = signs ** (places_by(framed) - 1)
                for sign in range(signs):
                    self.assertEqual(step(one, 0, sign), 0)
                    for some in [2 ** count - 1] + [2 ** node for node in range(count)]:
                        self.assertEqual(step(one, some, sign), step_by_hand(framed, some, sign))

    def test_from_every_set(self):
        for one in some_rules(2, 4) + some_rules(2, 3) + some_rules(3, 2) + [(2, 3, (0, 0)), (3, -1, (2, 0, 1))]:
            framed = frame_by_hand(one)
            for some in range(2 ** one[0] ** (places_by(framed) - 1)):
                for sign in range(one[0]):
                    self.assertEqual(step(one, some, sign), step_by_hand(framed, some, sign))

    def test_by_hand(self):
        one = (2, -1, (0, 1, 1, 1, 0, 1, 1, 0))
        self.assertEqual(number_by(one), 110)
        # From the node 00 by the sign 0 with the word 000, from 10 with 100, from 11 with 111.
        self.assertEqual([step(one, 15, 0), step(one, 15, 1)], [0b1001, 0b1110])
        self.assertEqual([step(one, 0b0001, 0), step(one, 0b0001, 1)], [0b0001, 0b0010])
        self.assertEqual([step(one, 0b0010, 0), step(one, 0b0010, 1)], [0, 0b1100])
        self.assertEqual([step(one, 0b1000, 0), step(one, 0b1000, 1)], [0b1000, 0b0100])

    def test_a_frame_of_one_place_that_counts(self):
        for signs in ALL_SIGNS:
            for low in LOWS:
                for sign in range(signs):
                    one = (signs, low, tuple(range(signs)))
                    self.assertEqual(step(one, 2 ** sign, sign), 2 ** signs - 1)
                    self.assertEqual(step(one, 2 ** signs - 1 - 2 ** sign, sign), 0)

    def test_the_ends_of_all_words_that_lead_to_a_stretch(self):
        for signs, many, longest in ((2, 2, 6), (2, 3, 5), (2, 4, 4), (3, 2, 3), (3, 3, 2), (4, 2, 2), (9, 2, 1)):
            for one in some_rules(signs, many, 10 ** 60) + [(signs, 0, (1,) * signs), rule_of(signs, -1, 2, min)]:
                framed = frame_by_hand(one)
                for length in range(longest + 1):
                    for row in words_in_order(signs, length):
                        some = everything(one)
                        for sign in row:
                            some = step(one, some, sign)
                        self.assertEqual(some, ends_by_hand(framed, row))


if __name__ == "__main__":
    unittest.main()
