"""How many rings lead to a ring (point 18)."""

import unittest

from helper import ALL_SIGNS, LARGE_WINDOWS, LOWS, SMALL_WINDOWS, Refusals
from helper import large_rule, mixed_word, ring_led, rule_of, some_rules, sum_rule, words_in_order
from rowrules.errors import TooWide
from rowrules.forms import widened
from rowrules.ringcounts import rings_before

LONGEST = {2: 6, 3: 4, 4: 3, 5: 3, 6: 2, 7: 2, 8: 2, 9: 2}


class TestRingsBefore(Refusals):
    def against_all_rings(self, one, length):
        come = [tuple(ring_led(one, ring)) for ring in words_in_order(one[0], length)]
        for ring in words_in_order(one[0], length):
            self.assertEqual(rings_before(one, ring), come.count(tuple(ring)))

    def test_against_all_rings(self):
        for signs, many in SMALL_WINDOWS:
            for one in some_rules(signs, many, -1, 2) + [large_rule(signs, many, 2)]:
                for length in range(1, LONGEST[signs] + 1):
                    self.against_all_rings(one, length)

    def test_low_near_far_and_below_nought(self):
        for low in LOWS:
            for one in some_rules(2, 4, low, 2) + some_rules(3, 2, low, 1) + [(3, low, (1, 2, 0)), (2, low, (1, 1))]:
                for length in (1, 2, 3, 4):
                    self.against_all_rings(one, length)

    def test_rules_told_by_wide_windows(self):
        for one in (sum_rule(2, -3, 8, [2, 4]), sum_rule(3, 0, 5, [3]), (2, 0, (1,) * 256)):
            for length in (1, 2, 3, 4, 5):
                self.against_all_rings(one, length)

    def test_the_sum_over_all_rings(self):
        for signs, many in SMALL_WINDOWS:
            for one in some_rules(signs, many, 3, 2) + [rule_of(signs, 0, many, max)]:
                for length in range(1, LONGEST[signs] + 1):
                    counts = [rings_before(one, ring) for ring in words_in_order(signs, length)]
                    self.assertEqual(sum(counts), signs ** length)

    def test_long_rings(self):
        for signs in ALL_SIGNS:
            ring = mixed_word(signs, 300)
            self.assertEqual(rings_before((signs, -1, (1,) * signs), [1] * 300), signs ** 300)
            self.assertEqual(rings_before((signs, -1, (1,) * signs), [1] * 299 + [0]), 0)
            self.assertEqual(rings_before((signs, 10 ** 60, tuple(range(signs))), ring), 1)
            one = sum_rule(signs, 0, 2, [0, 1])
            self.assertGreaterEqual(rings_before(one, ring_led(one, ring)), 1)
        both_one = (2, 0, (0, 0, 0, 1))
        last, this = 1, 3
        for many in range(2, 301):
            last, this = this, last + this
            if many % 50 == 0:
                self.assertEqual(rings_before(both_one, [0] * many), last)

    def test_sums_of_two_neighbours(self):
        one = (2, 0, (0, 1, 1, 0))
        for length in (1, 2, 3, 299, 300):
            self.assertEqual(rings_before(one, [0] * length), 2)
            self.assertEqual(rings_before(one, [0] * (length - 1) + [1]), 0)
        self.assertEqual(rings_before(one, [1, 1]), 2)

    def test_what_is_no_ring(self):
        for signs, many in ((2, 1), (2, 4), (3, 2), (9, 2)):
            self.words_alone(rings_before, large_rule(signs, many), 1)
            self.refused_at(0, rings_before, large_rule(signs, many), [])
            self.refused_at(0, rings_before, (signs, 0, (0,) * signs), [])

    def test_rules_that_are_not_small_are_refused_first(self):
        for signs, many in LARGE_WINDOWS:
            for ring in ([0, 1, 1], [], [None], [0, signs]):
                self.refused(TooWide, rings_before, large_rule(signs, many), ring)
        self.assertEqual(rings_before(widened((2, 0, (0, 1)), -3, 4), [0, 1]), 1)

    def test_the_ring_stays(self):
        ring = [0, 1, 1]
        rings_before((2, 0, (0, 1, 1, 0)), ring)
        self.assertEqual(ring, [0, 1, 1])


if __name__ == "__main__":
    unittest.main()
