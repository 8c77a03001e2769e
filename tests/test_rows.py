"""Stretches and rings led, and rings that come again (points 9, 10 and 11)."""

import unittest

from helper import ALL_SIGNS, LOWS, MOST_PLACES, WINDOWS, Refusals
from helper import mixed_rule, mixed_word, ring_led, rule_of, some_rules, stretch_led, words_in_order
from rowrules.rows import after, comes_again, led, led_ring

SHIFT = (2, 1, (0, 1))
BOTH_ONE = (2, 0, (0, 0, 0, 1))


def ring_by_hand(one, ring, times):
    for k in range(times):
        ring = ring_led(one, ring)
    return ring


def again_by_hand(one, ring):
    rings = [ring]
    while rings[-1] not in rings[:-1]:
        rings.append(ring_led(one, rings[-1]))
    ahead = rings.index(rings[-1])
    return (ahead, len(rings) - 1 - ahead)


class TestLed(Refusals):
    def test_every_length_about_the_windows(self):
        for signs, many in WINDOWS:
            for one in some_rules(signs, many, -2):
                for length in range(2 * many + 3):
                    row = mixed_word(signs, length)
                    self.assertEqual(led(one, row), stretch_led(one, row))
                    self.assertEqual(len(led(one, row)), max(0, length - many + 1))

    def test_every_word_of_some_windows(self):
        for signs, many, length in ((2, 3, 6), (3, 2, 4), (4, 1, 3), (9, 2, 3)):
            for one in some_rules(signs, many):
                for row in words_in_order(signs, length):
                    self.assertEqual(led(one, row), stretch_led(one, row))

    def test_by_hand(self):
        one = (2, -1, (0, 1, 1, 1, 0, 1, 1, 0))
        self.assertEqual(led(one, [0, 0, 0, 1, 0, 1, 1, 1]), [0, 1, 1, 1, 1, 0])
        self.assertEqual(led((3, 5, (1, 2, 0)), [0, 1, 2, 2]), [1, 2, 0, 0])

    def test_shorter_than_the_window_is_led_to_the_empty_word(self):
        for signs in ALL_SIGNS:
            one = mixed_rule(signs, MOST_PLACES[signs])
            for length in range(MOST_PLACES[signs]):
                self.assertEqual(led(one, [1] * length), [])

    def test_low_is_not_looked_at(self):
        for signs, many in WINDOWS:
            row = mixed_word(signs, many + 5)
            answers = [led(mixed_rule(signs, many, low), row) for low in LOWS]
            self.assertEqual(answers, [answers[0]] * len(LOWS))

    def test_long_stretches(self):
        for signs, many in WINDOWS:
            row = mixed_word(signs, 300)
            self.assertEqual(led(mixed_rule(signs, many), row), stretch_led(mixed_rule(signs, many), row))

    def test_what_is_no_sign(self):
        for signs, many in ((2, 1), (2, 8), (3, 2), (5, 3), (9, 2)):
            self.words_alone(led, mixed_rule(signs, many))

    def test_what_is_no_sign_in_a_stretch_shorter_than_the_window(self):
        self.refused_at(2, led, mixed_rule(2, 8), [0, 1, 2])
        self.refused_at(0, led, mixed_rule(3, 5), [True])

    def test_the_row_stays_and_the_answer_is_the_askers_own(self):
        for one in ((2, 0, (0, 1)), mixed_rule(2, 3)):
            row = [0, 1, 1, 0]
            told = led(one, row)
            early = list(told)
            told.append(5)
            told[0] = 7
            self.assertEqual(row, [0, 1, 1, 0])
            self.assertEqual(led(one, row), early)
        led(mixed_rule(2, 3), []).append(1)
        self.assertEqual(led(mixed_rule(2, 3), []), [])


class TestLedRing(Refusals):
    def test_every_length_and_low(self):
        for signs, many in WINDOWS:
            for low in LOWS:
                one = mixed_rule(signs, many, low)
                for length in range(1, many + 4):
                    ring = mixed_word(signs, length)
                    self.assertEqual(led_ring(one, ring), ring_led(one, ring))

    def test_every_ring_of_some_lengths(self):
        for signs, many in ((2, 3), (2, 5), (3, 2), (4, 1)):
            for low in (-4, -1, 0, 2, 10 ** 60 + 1):
                for one in some_rules(signs, many, low):
                    for length in (1, 2, 3, 4):
                        for ring in words_in_order(signs, length):
                            self.assertEqual(led_ring(one, ring), ring_led(one, ring))

    def test_by_hand(self):
        one = (2, -1, (0, 1, 1, 1, 0, 1, 1, 0))
        self.assertEqual(led_ring(one, [0, 0, 0, 1, 0]), [0, 0, 1, 1, 0])
        self.assertEqual(led_ring(SHIFT, [1, 0, 0]), [0, 0, 1])
        self.assertEqual(led_ring((2, -1, (0, 1)), [1, 0, 0]), [0, 1, 0])

    def test_a_ring_of_one_sign(self):
        for signs, many in WINDOWS:
            for sign in range(signs):
                one = mixed_rule(signs, many, -5)
                self.assertEqual(led_ring(one, [sign]), stretch_led(one, [sign] * many))

    def test_far_lows(self):
        for low in (10 ** 60, 10 ** 75 + 4, -(10 ** 60), -(10 ** 299) + 1, 10 ** 299 + 3):
            ring = [0, 1, 2, 3, 4, 5, 6]
            shift = (9, low, tuple(range(9)))
            self.assertEqual(led_ring(shift, ring), [(i + low) % 7 for i in range(7)])

    def test_long_rings(self):
        for signs, many in WINDOWS:
            for low in (-1, 10 ** 60 + 7):
                ring = mixed_word(signs, 300)
                self.assertEqual(led_ring(mixed_rule(signs, many, low), ring), ring_led(mixed_rule(signs, many, low), ring))

    def test_what_is_no_ring(self):
        for call in (led_ring, after, comes_again):
            for signs, many in ((2, 1), (2, 8), (3, 2), (9, 2)):
                self.words_alone(call, mixed_rule(signs, many, -1), 1)
                self.refused_at(0, call, mixed_rule(signs, many, -1), [])

    def test_the_ring_stays_and_the_answer_is_the_askers_own(self):
        ring = [0, 1, 1]
        told = led_ring((2, 0, (0, 1)), ring)
        told.append(1)
        self.assertEqual(ring, [0, 1, 1])
        self.assertEqual(led_ring((2, 0, (0, 1)), ring), [0, 1, 1])


class TestAfter(Refusals):
    def test_once_where_the_number_is_left_out(self):
        for signs, many in WINDOWS:
            one = mixed_rule(signs, many, -1)
            ring = mixed_word(signs, 7)
            self.assertEqual(after(one, ring), ring_led(one, ring))
            self.assertEqual(after(one, ring, 1), ring_led(one, ring))

    def test_not_at_all_tells_a_list_of_its_own(self):
        for ring in ([0], [1, 0, 1], mixed_word(2, 300)):
            early = list(ring)
            told = after(mixed_rule(2, 3), ring, 0)
            self.assertEqual(told, early)
            self.assertIsNot(told, ring)
            told.append(1)
            self.assertEqual(ring, early)

    def test_some_times(self):
        for signs, many in WINDOWS:
            one = mixed_rule(signs, many, 3)
            for times in (2, 3, 7):
                ring = mixed_word(signs, 5)
                self.assertEqual(after(one, ring, times), ring_by_hand(one, ring, times))

    def test_many_times(self):
        ring = mixed_word(2, 300)
        self.assertEqual(after(SHIFT, ring, 1000), ring[100:] + ring[:100])
        one = (2, -1, (0, 1, 0, 1, 1, 0, 1, 0))
        self.assertEqual(after(one, mixed_word(2, 21), 1000), ring_by_hand(one, mixed_word(2, 21), 1000))
        self.assertEqual(len(after(mixed_rule(2, 8, -4), ring, 1000)), 300)

    def test_no_ring_is_refused_for_no_times_either(self):
        self.refused_at(0, after, SHIFT, [], 0)
        self.refused_at(1, after, SHIFT, [0, 2], 0)
        self.refused_at(0, after, SHIFT, [], 1000)


class TestComesAgain(Refusals):
    def test_all_short_rings(self):
        for signs, many, low in ((2, 3, -1), (2, 2, 0), (3, 2, 5), (4, 1, 1)):
            for one in some_rules(signs, many, low, 5):
                for length in (1, 2, 3, 4):
                    for ring in words_in_order(signs, length):
                        self.assertEqual(comes_again(one, ring, 1000), again_by_hand(one, ring))

    def test_at_once(self):
        for length in (1, 2, 300):
            self.assertEqual(comes_again((2, 0, (0, 1)), mixed_word(2, length)), (0, 1))
        self.assertEqual(comes_again((2, 0, (1, 0)), [0, 1, 1]), (0, 2))

    def test_after_some_steps(self):
        self.assertEqual(comes_again((2, 0, (0, 0)), [1]), (1, 1))
        self.assertEqual(comes_again(BOTH_ONE, [1, 1, 1, 1, 0]), (4, 1))
        self.assertEqual(comes_again((4, 0, (1, 2, 3, 2)), [0]), (2, 2))

    def test_late(self):
        self.assertEqual(comes_again(SHIFT, [1] + [0] * 299, 300), (0, 300))
        self.assertEqual(comes_again(BOTH_ONE, [1] * 299 + [0], 1000), (299, 1))
        # Each sign is two at once, led by BOTH_ONE and by SHIFT.
        one = rule_of(4, 0, 2, lambda word: 2 * (word[0] // 2 * (word[1] // 2)) + word[1] % 2)
        for many in (2, 5, 32, 300):
            self.assertEqual(comes_again(one, [1] + [2] * (many - 1), 1000), (many - 1, many))

    def test_most_left_out_is_64(self):
        self.assertEqual(comes_again(SHIFT, [1] + [0] * 63), (0, 64))
        self.assertIsNone(comes_again(SHIFT, [1] + [0] * 64))
        self.assertEqual(comes_again(BOTH_ONE, [1] * 63 + [0]), (63, 1))
        self.assertIsNone(comes_again(BOTH_ONE, [1] * 64 + [0]))

    def test_the_very_sum_and_one_less(self):
        for one in some_rules(2, 3, -1, 12) + some_rules(3, 2, 0, 12):
            ring = mixed_word(one[0], 9)
            ahead, turn = again_by_hand(one, ring)
            self.assertEqual(comes_again(one, ring, ahead + turn), (ahead, turn))
            self.assertEqual(comes_again(one, ring, ahead + turn + 1), (ahead, turn))
            self.assertIsNone(comes_again(one, ring, ahead + turn - 1))
        self.assertEqual(comes_again(SHIFT, [1] + [0] * 299, 300), (0, 300))
        self.assertIsNone(comes_again(SHIFT, [1] + [0] * 299, 299))

    def test_most_0_and_1000(self):
        self.assertIsNone(comes_again((2, 0, (0, 1)), [0], 0))
        self.assertIsNone(comes_again((2, -1, (0, 1, 0, 1, 1, 0, 1, 0)), [1] + [0] * 166, 1000))
        self.refused_at(0, comes_again, SHIFT, [], 0)
        self.refused_at(1, comes_again, SHIFT, [0, None], 0)

    def test_the_ring_stays(self):
        ring = [1, 1, 0]
        comes_again(SHIFT, ring)
        self.assertEqual(ring, [1, 1, 0])


if __name__ == "__main__":
    unittest.main()
