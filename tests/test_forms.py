"""Places that count, the narrowest window, rules that do the same, other windows (points 12 and 13)."""

import unittest

from helper import ALL_SIGNS, LOWS, MOST_PLACES, WINDOWS, Refusals
from helper import counting_by_hand, mixed_rule, next_at, places_by, ring_led, some_rules, sum_rule
from helper import tables_in_order, told_by, words_in_order
from rowrules.errors import NoWindow, TooWide
from rowrules.forms import counting, narrow, same, widened
from rowrules.rules import rule, still


def does_the_same(one, other):
    """Whether both tell the same at the place 0 whatever stands at any place that one of them looks at."""
    first = min(one[1], other[1])
    last = max(one[1] + places_by(one), other[1] + places_by(other))
    for word in words_in_order(one[0], last - first):
        if next_at(one, lambda place: word[place - first], 0) != next_at(other, lambda place: word[place - first], 0):
            return False
    return True


class TestCounting(unittest.TestCase):
    def test_any_table(self):
        for signs, many in WINDOWS:
            for one in some_rules(signs, many, -3):
                if signs ** many <= 81:
                    self.assertEqual(counting(one), counting_by_hand(one))

    def test_every_table_of_some_windows(self):
        for signs, many in ((2, 1), (2, 2), (2, 3), (3, 1), (4, 1)):
            for table in tables_in_order(signs, many):
                self.assertEqual(counting((signs, 4, table)), counting_by_hand((signs, 4, table)))

    def test_every_place_one_some_none(self):
        for signs, many in WINDOWS:
            every = list(range(many))
            for chosen in [[], every, every[::2], every[1::2], every[1:-1], [0, many - 1]] + [[at] for at in every]:
                chosen = sorted(set(chosen))
                for low in (0, -2, 10 ** 299, -(10 ** 299)):
                    one = sum_rule(signs, low, many, chosen)
                    self.assertEqual(counting(one), [low + at for at in chosen])

    def test_a_single_word_told_otherwise_makes_every_place_count(self):
        for signs, many in WINDOWS:
            for at in (0, 1, signs ** many - 1):
                table = [1] * signs ** many
                table[at] = 0
                self.assertEqual(counting((signs, 0, tuple(table))), list(range(many)))

    def test_a_place_that_counts_for_the_last_sign_alone(self):
        self.assertEqual(counting((3, 0, (0, 0, 0, 0, 0, 0, 0, 0, 1))), [0, 1])
        self.assertEqual(counting((3, 0, (0, 0, 1, 0, 0, 1, 0, 0, 1))), [1])
        self.assertEqual(counting((3, 0, (0, 0, 0, 0, 0, 0, 1, 1, 1))), [0])

    def test_the_answer_is_the_askers_own(self):
        counting(mixed_rule(2, 3)).append(9)
        self.assertEqual(counting((2, 5, (0, 1))), [5])
        counting((2, 5, (1, 1))).append(9)
        self.assertEqual(counting((2, 5, (1, 1))), [])


class TestNarrow(unittest.TestCase):
    def test_any_table(self):
        for signs, many in WINDOWS:
            for one in some_rules(signs, many, -1) + [mixed_rule(signs, many, 2)]:
                found = counting(one) or [0]
                told = narrow(one)
                self.assertEqual(rule(*told), told)
                self.assertEqual((told[1], places_by(told)), (found[0], found[-1] - found[0] + 1))
                self.assertTrue(does_the_same(one, told))

    def test_every_small_table(self):
        for table in tables_in_order(2, 3):
            told = narrow((2, -1, table))
            self.assertTrue(does_the_same((2, -1, table), told))
            self.assertEqual(narrow(told), told)

    def test_no_place_counts(self):
        for signs, many in WINDOWS:
            for low in LOWS:
                for sign in range(signs):
                    self.assertEqual(narrow((signs, low, (sign,) * signs ** many)), (signs, 0, (sign,) * signs))

    def test_one_place_counts(self):
        for signs, many in WINDOWS:
            for at in range(many):
                for low in LOWS:
                    one = sum_rule(signs, low, many, [at])
                    self.assertEqual(narrow(one), (signs, low + at, tuple(range(signs))))

    def test_a_place_in_the_middle_that_does_not_count_stays(self):
        one = sum_rule(2, -3, 6, [1, 3])
        self.assertEqual(narrow(one), (2, -2, (0, 1, 0, 1, 1, 0, 1, 0)))
        self.assertEqual(counting(narrow(one)), [-2, 0])

    def test_a_rule_by_its_narrowest_window_stays(self):
        for one in (still(4), (2, -1, (0, 1, 1, 1, 0, 1, 1, 0)), (9, 10 ** 60, tuple(range(9)))):
            self.assertEqual(narrow(one), one)


class TestSame(unittest.TestCase):
    def told(self, one, other, answer):
        self.assertIs(same(one, other), answer)
        self.assertIs(same(other, one), answer)

    def test_rules_by_unlike_windows(self):
        for signs in ALL_SIGNS:
            for many in range(1, MOST_PLACES[signs]):
                for one in some_rules(signs, many, -2, 2):
                    self.told(one, widened(one, -3, -3 + many), True)
                    self.told(one, widened(one, -2, -2 + many), True)
                    self.told(widened(one, -3, -3 + many), widened(one, -2, -2 + many), True)

    def test_each_pair_of_small_rules(self):
        rules = [(2, low, table) for low in (0, 1) for table in tables_in_order(2, 2)]
        for one in rules:
            for other in rules:
                self.assertIs(same(one, other), does_the_same(one, other))

    def test_unlike_rules(self):
        self.told((2, 0, (0, 1)), (2, 1, (0, 1)), False)
        self.told((2, 0, (0, 1)), (2, 0, (1, 0)), False)
        self.told((2, 0, (0, 0)), (2, 0, (1, 1)), False)
        self.told((2, 0, (0, 0)), (2, 7, (0, 0, 0, 0)), True)
        self.told((2, 0, (0, 1)), (2, -1, (0, 1, 0, 1)), True)
        self.told((2, 10 ** 60, (0, 1)), (2, 10 ** 60 + 1, (0, 1)), False)

    def test_unlike_numbers_of_signs(self):
        for signs in ALL_SIGNS:
            for others in ALL_SIGNS:
                self.told(still(signs), still(others), signs == others)
                self.told((signs, 0, (0,) * signs), (others, 0, (0,) * others), signs == others)
        self.told((2, 0, (0, 1, 1, 0)), (4, 0, (0, 1, 1, 0)), False)


class TestWidened(Refusals):
    def test_wider_windows(self):
        for signs in ALL_SIGNS:
            most = MOST_PLACES[signs]
            for many in range(1, most + 1):
                one = some_rules(signs, many, -1, 1)[0]
                for ahead in range(most - many + 1):
                    for behind in range(most - many - ahead + 1):
                        told = widened(one, -1 - ahead, many - 2 + behind)
                        self.assertEqual((told[0], told[1]), (signs, -1 - ahead))
                        self.assertEqual(places_by(told), ahead + many + behind)
                        self.assertEqual(told[2], tuple(
                            told_by(one, word[ahead:ahead + many])
                            for word in words_in_order(signs, ahead + many + behind)
                        ))

    def test_narrower_windows(self):
        one = sum_rule(2, -2, 7, [2, 3])
        for low in (-2, -1, 0):
            for high in (1, 2, 3, 4):
                told = widened(one, low, high)
                self.assertEqual((told[1], places_by(told)), (low, high - low + 1))
                self.assertTrue(does_the_same(one, told))
        self.assertEqual(widened(one, 0, 1), (2, 0, (0, 1, 1, 0)))

    def test_windows_aside(self):
        one = sum_rule(3, 4, 4, [3])
        for low, high in ((7, 7), (7, 10), (6, 10), (3, 7)):
            told = widened(one, low, high)
            self.assertEqual((told[1], places_by(told)), (low, high - low + 1))
            self.assertTrue(does_the_same(one, told))

    def test_back_to_its_own_window(self):
        for signs, many in WINDOWS:
            for low in LOWS:
                one = mixed_rule(signs, many, low)
                self.assertEqual(widened(one, low, low + many - 1), one)
                self.assertEqual(widened(narrow(one), low, low + many - 1), one)
        for table in tables_in_order(2, 3):
            one = (2, -1, table)
            self.assertEqual(widened(widened(one, -3, 3), -1, 1), one)
            self.assertEqual(widened(narrow(one), -1, 1), one)

    def test_no_place_counts(self):
        for signs in ALL_SIGNS:
            for low in (0, -5, 10 ** 299):
                for window in (0, 3, -(10 ** 299), 10 ** 60):
                    for many in range(1, MOST_PLACES[signs] + 1):
                        told = widened((signs, low, (1,) * signs), window, window + many - 1)
                        self.assertEqual(told, (signs, window, (1,) * signs ** many))

    def test_low_above_high(self):
        for one in (still(2), mixed_rule(3, 2), (2, 0, (1, 1))):
            for low, high in ((1, 0), (0, -1), (5, -5), (10 ** 299, 0), (0, -(10 ** 299))):
                self.refused(NoWindow, widened, one, low, high)

    def test_a_place_that_counts_outside(self):
        one = sum_rule(2, -1, 4, [0, 2])
        for low, high in ((0, 2), (0, 1), (-1, 0), (-3, 0), (1, 1), (-1, -1), (2, 3), (10 ** 60, 10 ** 60 + 2)):
            self.refused(NoWindow, widened, one, low, high)
        self.assertEqual(counting(widened(one, -1, 1)), [-1, 1])

    def test_too_wide(self):
        for signs in ALL_SIGNS:
            most = MOST_PLACES[signs]
            self.assertEqual(places_by(widened(still(signs), 0, most - 1)), most)
            self.assertEqual(places_by(widened(still(signs), 1 - most, 0)), most)
            for low, high in ((0, most), (-most, 0), (-1, most - 1), (0, 299), (-(10 ** 299), 10 ** 299)):
                self.refused(TooWide, widened, still(signs), low, high)
                self.refused(TooWide, widened, (signs, 0, (0,) * signs), low, high)

    def test_no_window_goes_first(self):
        for signs in ALL_SIGNS:
            self.refused(NoWindow, widened, still(signs), 1, 20)
            self.refused(NoWindow, widened, still(signs), -20, -1)
            self.refused(NoWindow, widened, mixed_rule(signs, 2), 1, 10 ** 299)

    def test_rings_are_led_alike(self):
        one = sum_rule(2, -2, 5, [1, 3])
        for low, high in ((-1, 1), (-3, 4), (-2, 2), (-1, 4)):
            for ring in words_in_order(2, 5):
                self.assertEqual(ring_led(widened(one, low, high), ring), ring_led(one, ring))


if __name__ == "__main__":
    unittest.main()
