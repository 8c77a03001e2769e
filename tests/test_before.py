"""What comes before a stretch (point 17)."""

import unittest

from helper import ALL_SIGNS, LOWS, MOST_PLACES, WINDOWS, Refusals
from helper import mixed_rule, mixed_word, places_by, some_rules, stretch_led, words_in_order
from rowrules.before import all_before, before_at, many_before, place_before
from rowrules.errors import NoSuch
from rowrules.forms import widened
from rowrules.rules import still

# Number of signs, of places, and the longest stretch for which all words ahead are still few.
SHORT = [(2, 1, 5), (2, 2, 5), (2, 3, 4), (2, 5, 3), (3, 1, 3), (3, 2, 3), (4, 2, 2), (5, 1, 2), (6, 2, 1), (9, 2, 1)]
MANY = 10 ** 40 + 12345


def told_words(one, longest):
    """For each stretch of at most so many signs all words that lead to it, in their order."""
    found = {}
    for many in range(longest + 1):
        for row in words_in_order(one[0], many):
            found[tuple(row)] = []
        for word in words_in_order(one[0], many + places_by(one) - 1):
            found[tuple(stretch_led(one, word))].append(word)
    return found


def asked():
    for signs, many, longest in SHORT:
        for one in some_rules(signs, many, -1, 2) + [(signs, 3, (1,) * signs ** many)]:
            for row, words in told_words(one, longest).items():
                yield one, list(row), words


class TestManyBefore(Refusals):
    def test_against_all_words(self):
        for one, row, words in asked():
            self.assertEqual(many_before(one, row), len(words))

    def test_the_empty_stretch(self):
        for signs, many in WINDOWS:
            self.assertEqual(many_before(mixed_rule(signs, many), []), signs ** (many - 1))

    def test_low_is_not_looked_at(self):
        for low in LOWS:
            self.assertEqual(many_before(mixed_rule(3, 3, low), [0, 1, 1]), many_before(mixed_rule(3, 3), [0, 1, 1]))

    def test_the_rule_as_it_is_told(self):
        for signs in ALL_SIGNS:
            for many in range(1, MOST_PLACES[signs] + 1):
                one = widened(still(signs), 0, many - 1)
                self.assertEqual(many_before(one, [1, 0, 1]), signs ** (many - 1))

    def test_many_figures(self):
        for signs, many in WINDOWS:
            one = (signs, 0, (1,) * signs ** many)
            self.assertEqual(many_before(one, [1] * 300), signs ** (300 + many - 1))
            self.assertEqual(many_before(one, [1] * 299 + [0]), 0)
        both_one = (2, 0, (0, 0, 0, 1))
        last, this = 1, 2
        for many in range(300):
            last, this = this, last + this
            self.assertEqual(many_before(both_one, [0] * many), last)

    def test_signs_put_behind_or_ahead_add_up(self):
        for signs, many in WINDOWS:
            one = mixed_rule(signs, many)
            row = stretch_led(one, mixed_word(signs, 40))
            count = many_before(one, row)
            self.assertEqual(sum(many_before(one, row + [sign]) for sign in range(signs)), count * signs)
            self.assertEqual(sum(many_before(one, [sign] + row) for sign in range(signs)), count * signs)

    def test_what_is_no_word(self):
        for signs, many in ((2, 1), (2, 8), (3, 2), (9, 2)):
            self.words_alone(many_before, mixed_rule(signs, many))
            self.words_alone(all_before, mixed_rule(signs, many))
            self.words_alone(lambda one, row: before_at(one, row, 0), mixed_rule(signs, many))


class TestBeforeAt(Refusals):
    def test_against_all_words_in_their_order(self):
        for one, row, words in asked():
            self.assertEqual([before_at(one, row, number) for number in range(len(words))], words)

    def test_no_such_number(self):
        for one, row, words in asked():
            for number in (-1, -(10 ** 299), len(words), len(words) + 1, 10 ** 299):
                self.refused(NoSuch, before_at, one, row, number)

    def test_many_figures(self):
        for signs, many in WINDOWS:
            one = (signs, 0, (0,) * signs ** many)
            length = 300 + many - 1
            for word in (mixed_word(signs, length), [0] * length, [signs - 1] * length, [1] * length):
                number = int("".join(str(sign) for sign in word), signs)
                self.assertEqual(before_at(one, [0] * 300, number), word)
            self.refused(NoSuch, before_at, one, [0] * 300, signs ** length)
            self.refused(NoSuch, before_at, one, [0] * 300, -1)

    def test_each_leads_to_the_stretch_and_comes_behind_the_one_before(self):
        for signs, many in WINDOWS:
            one = mixed_rule(signs, many)
            row = stretch_led(one, mixed_word(signs, 300))
            count = many_before(one, row)
            last = []
            for number in sorted({0, count // 3, count // 2, count - 1}):
                word = before_at(one, row, number)
                self.assertEqual(stretch_led(one, word), row)
                self.assertGreater(word, last)
                last = word

    def test_no_row_goes_first(self):
        self.refused_at(1, before_at, still(2), [0, 2], -1)
        self.refused_at(0, before_at, still(2), [None], 10 ** 299)

    def test_the_answer_is_the_askers_own(self):
        row = [1, 0]
        told = before_at(still(2), row, 0)
        told.append(1)
        self.assertEqual(row, [1, 0])
        self.assertEqual(before_at(still(2), row, 0), [1, 0])


class TestPlaceBefore(Refusals):
    def test_against_all_words_in_their_order(self):
        for one, row, words in asked():
            self.assertEqual([place_before(one, word) for word in words], list(range(len(words))))

    def test_both_ways_round(self):
        for signs, many in WINDOWS:
            for one in [mixed_rule(signs, many, -4), (signs, 0, (1,) * signs ** many)]:
                word = mixed_word(signs, 300)
                number = place_before(one, word)
                self.assertEqual(before_at(one, stretch_led(one, word), number), word)
                row = stretch_led(one, word)
                last = many_before(one, row) - 1
                self.assertEqual(place_before(one, before_at(one, row, last)), last)
                self.assertEqual(place_before(one, before_at(one, row, min(last, MANY))), min(last, MANY))

    def test_a_word_shorter_by_one_than_the_window(self):
        for signs, many in WINDOWS:
            words = words_in_order(signs, many - 1)
            self.assertEqual([place_before(mixed_rule(signs, many), word) for word in words], list(range(len(words))))

    def test_shorter_words_are_refused(self):
        for signs, many in WINDOWS:
            for length in range(many - 1):
                self.refused_at(length, place_before, mixed_rule(signs, many), [1] * length)
        self.refused_at(1, place_before, mixed_rule(2, 8), [0, 2, 0])
        self.refused_at(0, place_before, mixed_rule(2, 8), [None])
        self.refused_at(2, place_before, mixed_rule(2, 4), [0, 1])

    def test_what_is_no_sign(self):
        for signs, many in ((2, 1), (2, 8), (3, 2), (9, 2)):
            self.words_alone(place_before, mixed_rule(signs, many), many - 1)

    def test_the_word_stays(self):
        word = [0, 1, 1, 0]
        place_before(mixed_rule(2, 3), word)
        self.assertEqual(word, [0, 1, 1, 0])


class TestAllBefore(Refusals):
    def test_against_all_words_in_their_order(self):
        for one, row, words in asked():
            self.assertEqual(all_before(one, row, 300), words[:300])
            self.assertEqual(all_before(one, row), words[:50])
            for most in (0, 1, 2, max(0, len(words) - 1), len(words), len(words) + 1):
                self.assertEqual(all_before(one, row, most), words[:most])

    def test_most_left_out_is_50(self):
        one = (2, 0, (0,) * 64)
        self.assertEqual(len(all_before(one, [0])), 50)
        self.assertEqual(len(all_before(one, [])), 32)
        self.assertEqual(all_before(one, [0]), all_before(one, [0], 50))

    def test_long_stretches(self):
        one = (2, 0, (0,) * 256)
        words = all_before(one, [0] * 300, 300)
        self.assertEqual(words, [[0] * 298 + [int(figure) for figure in f"{number:09b}"] for number in range(300)])

    def test_no_words_at_all(self):
        self.assertEqual(all_before((2, 0, (0, 0)), [0, 1]), [])
        self.refused_at(1, all_before, (2, 0, (0, 0)), [0, 2], 0)

    def test_the_answer_is_the_askers_own(self):
        told = all_before((2, 0, (0, 0)), [0, 0])
        told[0].append(7)
        told.append([])
        self.assertEqual(all_before((2, 0, (0, 0)), [0, 0]), [[0, 0], [0, 1], [1, 0], [1, 1]])


if __name__ == "__main__":
    unittest.main()
