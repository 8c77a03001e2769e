"""Rules moved, turned about, joined and repeated (points 14, 15 and 16)."""

import unittest

from helper import ALL_SIGNS, LOWS, MOST_PLACES, WINDOWS, Refusals
from helper import mixed_rule, mixed_word, ring_led, rule_of, some_rules, tables_in_order, told_by
from helper import words_in_order
from rowrules.errors import NoRule, TooWide
from rowrules.forms import counting, narrow, widened
from rowrules.joins import joined, moved, repeated, turned
from rowrules.rules import rule, still

TWO_SUM = (2, 0, (0, 1, 1, 0))
# Tells 1 for one word of five signs alone, and no two of these lie so that it tells 1 for what came.
LONE = (2, 0, tuple(1 if number == 30 else 0 for number in range(32)))


def rotated(ring, by):
    return [ring[(i + by) % len(ring)] for i in range(len(ring))]


def backwards(ring):
    """The ring that is read from the right to the left, the place 0 staying."""
    return [ring[-i % len(ring)] for i in range(len(ring))]


def short_rings(signs):
    return [ring for many in (1, 2, 3, 4) for ring in words_in_order(signs, many)] + [mixed_word(signs, 11)]


class TestMoved(unittest.TestCase):
    def test_low_moves_and_the_table_stays(self):
        for signs, many in WINDOWS:
            for low in LOWS:
                for by in (0, 1, -1, 8, -40, 10 ** 60, -(10 ** 299)):
                    one = mixed_rule(signs, many, low)
                    self.assertEqual(moved(one, by), (signs, low + by, one[2]))

    def test_what_it_does_to_rings(self):
        for one in some_rules(2, 3, -1) + some_rules(3, 2, 0):
            for by in (1, -2, 5, 10 ** 60 + 1):
                for ring in short_rings(one[0]):
                    self.assertEqual(ring_led(moved(one, by), ring), rotated(ring_led(one, ring), by))

    def test_the_window_stays_where_no_place_counts(self):
        self.assertEqual(moved((2, 3, (1, 1, 1, 1)), 4), (2, 7, (1, 1, 1, 1)))


class TestTurned(unittest.TestCase):
    def test_window_and_table(self):
        for signs, many in WINDOWS:
            for low in LOWS:
                one = mixed_rule(signs, many, low)
                table = tuple(told_by(one, word[::-1]) for word in words_in_order(signs, many))
                self.assertEqual(turned(one), (signs, -(low + many - 1), table))

    def test_by_hand(self):
        self.assertEqual(turned((2, -1, (0, 1, 1, 1, 0, 1, 1, 0))), (2, -1, (0, 0, 1, 1, 1, 1, 1, 0)))
        self.assertEqual(turned((2, 0, (0, 0, 1, 1))), (2, -1, (0, 1, 0, 1)))
        self.assertEqual(turned((3, 5, (2, 0, 1))), (3, -5, (2, 0, 1)))

    def test_twice_is_the_rule_itself(self):
        for signs, many in WINDOWS:
            for one in some_rules(signs, many, -3) + [(signs, 9, (1,) * signs ** many)]:
                self.assertEqual(turned(turned(one)), one)

    def test_what_it_does_to_rings(self):
        for one in some_rules(2, 3, 1) + some_rules(3, 2, 0) + some_rules(2, 4, -7):
            for ring in short_rings(one[0]):
                self.assertEqual(ring_led(turned(one), backwards(ring)), backwards(ring_led(one, ring)))


class TestJoined(Refusals):
    def leads_behind_one_another(self, first, second):
        told = joined(first, second)
        self.assertEqual(rule(*told), told)
        self.assertEqual(narrow(told), told)
        for ring in short_rings(first[0]):
            self.assertEqual(ring_led(told, ring), ring_led(second, ring_led(first, ring)))

    def test_rings_are_led_where_the_first_and_then_the_second_lead_them(self):
        for signs, many, others in ((2, 3, 3), (2, 1, 8), (2, 8, 1), (2, 2, 5), (3, 2, 3), (4, 2, 3), (5, 2, 2), (6, 1, 3),
                                    (7, 1, 2), (8, 2, 1), (9, 1, 1)):
            for first in some_rules(signs, many, -1, 2):
                for second in some_rules(signs, others, 3, 2):
                    self.leads_behind_one_another(first, second)
                    self.leads_behind_one_another(moved(first, 10 ** 60), second)

    def test_all_pairs_of_small_rules(self):
        rules = [(2, 0, table) for table in tables_in_order(2, 2)]
        for first in rules:
            for second in rules:
                self.leads_behind_one_another(first, second)

    def test_the_first_is_done_first(self):
        first = (3, 0, (1, 2, 0))
        second = (3, 0, (0, 0, 1))
        self.assertEqual(joined(first, second), (3, 0, (0, 1, 0)))
        self.assertEqual(joined(second, first), (3, 0, (1, 1, 2)))

    def test_it_is_told_by_its_narrowest_window(self):
        self.assertEqual(joined(TWO_SUM, TWO_SUM), (2, 0, (0, 1, 0, 1, 1, 0, 1, 0)))
        self.assertEqual(joined((2, 5, (0, 1)), (2, -5, (0, 1))), (2, 0, (0, 1)))
        self.assertEqual(joined(LONE, (2, 4, (1, 1))), (2, 0, (1, 1)))
        self.assertEqual(joined((2, 7, (1, 1)), TWO_SUM), (2, 0, (0, 0)))
        self.assertEqual(joined(still(4), widened(still(4), -1, 2)), still(4))
        lefts = rule_of(3, 0, 2, lambda word: min(word[0], 1))
        self.assertEqual(joined(lefts, (3, 2, (0, 0, 1))), (3, 0, (0, 0, 0)))

    def test_unlike_numbers_of_signs(self):
        for signs in ALL_SIGNS:
            for others in ALL_SIGNS:
                if signs != others:
                    self.refused(NoRule, joined, still(signs), still(others))
                    self.refused(NoRule, joined, (signs, 0, (0,) * signs), (others, 0, (0,) * others))

    def test_no_rule_goes_first(self):
        self.refused(NoRule, joined, mixed_rule(2, 8), mixed_rule(3, 5))
        self.refused(NoRule, joined, mixed_rule(9, 2), mixed_rule(2, 8))

    def test_the_bound(self):
        for signs in ALL_SIGNS:
            most = MOST_PLACES[signs]
            for many in range(1, most + 1):
                for others in range(1, most + 1):
                    first = rule_of(signs, -1, many, lambda word: sum(word) % signs)
                    second = rule_of(signs, 2, others, lambda word: (word[0] + word[-1]) % signs)
                    if many + others - 1 > most:
                        self.refused(TooWide, joined, first, second)
                    else:
                        self.assertEqual(narrow(joined(first, second)), joined(first, second))

    def test_the_narrowest_windows_bound_it_not_the_ones_they_are_told_by(self):
        wide = widened(still(2), -4, 3)
        self.assertEqual(joined(wide, wide), still(2))
        self.assertEqual(joined(widened(TWO_SUM, -6, 1), mixed_rule(2, 7)), joined(TWO_SUM, mixed_rule(2, 7)))
        self.assertEqual(joined((2, 3, (1,) * 256), mixed_rule(2, 8))[1:], (0, (mixed_rule(2, 8)[2][255],) * 2))

    def test_too_wide_even_where_the_joined_rule_is_not(self):
        self.refused(TooWide, joined, LONE, LONE)
        without_two = rule_of(3, 0, 5, lambda word: sum(word) % 2)
        for_twos = rule_of(3, 0, 2, lambda word: 1 if 2 in word else 0)
        self.refused(TooWide, joined, without_two, for_twos)
        self.assertEqual(joined(rule_of(3, 0, 4, lambda word: sum(word) % 2), for_twos), (3, 0, (0, 0, 0)))


class TestRepeated(Refusals):
    def test_not_at_all(self):
        for signs, many in WINDOWS:
            for one in (mixed_rule(signs, many, 4), (signs, -1, (1,) * signs ** many)):
                self.assertEqual(repeated(one, 0), (signs, 0, tuple(range(signs))))

    def test_once(self):
        for signs, many in WINDOWS:
            for one in some_rules(signs, many, -2) + [(signs, 7, (1,) * signs ** many)]:
                self.assertEqual(repeated(one, 1), narrow(one))
        self.assertEqual(repeated(widened(TWO_SUM, -3, 4), 1), TWO_SUM)

    def test_more_times(self):
        for one, times in ((some_rules(2, 2, -1)[0], 7), (some_rules(2, 3, 1)[1], 3), (some_rules(3, 2, 0)[0], 4)):
            for many in range(times + 1):
                told = repeated(one, many)
                self.assertEqual(narrow(told), told)
                for ring in short_rings(one[0]):
                    come = ring
                    for k in range(many):
                        come = ring_led(one, come)
                    self.assertEqual(ring_led(told, ring), come)

    def test_each_is_the_one_before_joined_with_the_rule(self):
        one = some_rules(2, 2, 10 ** 60)[2]
        for many in range(1, 7):
            self.assertEqual(repeated(one, many + 1), joined(repeated(one, many), one))

    def test_sixty_times(self):
        for signs in ALL_SIGNS:
            turn = tuple((sign + 1) % signs for sign in range(signs))
            self.assertEqual(
                repeated((signs, -3, turn), 60), (signs, -180, tuple((sign + 60) % signs for sign in range(signs)))
            )
            self.assertEqual(repeated((signs, 9, (1,) * signs), 60), (signs, 0, (1,) * signs))

    def test_too_wide(self):
        self.assertEqual(counting(repeated(TWO_SUM, 4)), [0, 4])
        self.assertEqual(counting(repeated(TWO_SUM, 7)), list(range(8)))
        for many in (8, 9, 16, 60):
            self.refused(TooWide, repeated, TWO_SUM, many)
        nine = rule_of(9, 0, 2, lambda word: sum(word) % 9)
        self.assertEqual(repeated(nine, 1), nine)
        self.refused(TooWide, repeated, nine, 2)

    def test_too_wide_where_what_would_come_is_not(self):
        for many in (2, 3, 60):
            self.refused(TooWide, repeated, LONE, many)
        self.assertEqual(repeated(LONE, 1), LONE)
        self.assertEqual(repeated(LONE, 0), still(2))


if __name__ == "__main__":
    unittest.main()
