"""Words and their numbers (points 4 and 8)."""

import unittest

from helper import ALL_SIGNS, NO_SIGNS, Refusals, mixed_word, words_in_order
from rowrules.errors import NoSuch
from rowrules.words import is_whole, number_of, word_of


class TestIsWhole(unittest.TestCase):
    def test_whole_numbers(self):
        for thing in (0, 1, -1, 9, 10 ** 299, -(10 ** 299)):
            self.assertIs(is_whole(thing), True)

    def test_what_is_none(self):
        for thing in (True, False, None, "", "1", [], [1], (), (1,), {}, 1.0, 0.5, b"1", int, len):
            with self.subTest(repr(thing)):
                self.assertIs(is_whole(thing), False)


class TestNumbers(unittest.TestCase):
    def test_words_are_numbered_in_their_order(self):
        for signs in ALL_SIGNS:
            for many in range(4):
                words = words_in_order(signs, many)
                self.assertEqual(words, sorted(words))
                self.assertEqual([number_of(word, signs) for word in words], list(range(signs ** many)))
                self.assertEqual([word_of(k, signs, many) for k in range(signs ** many)], words)

    def test_a_word_writes_its_number(self):
        for signs in ALL_SIGNS:
            for many in (1, 2, 8, 40, 299, 300):
                word = mixed_word(signs, many)
                number = int("".join(str(sign) for sign in word), signs)
                self.assertEqual(number_of(word, signs), number)
                self.assertEqual(word_of(number, signs, many), word)

    def test_one_word_of_its_own(self):
        self.assertEqual(number_of([1, 1, 0], 2), 6)
        self.assertEqual(number_of([2, 0, 1], 3), 19)
        self.assertEqual(number_of([8, 0], 9), 72)
        self.assertEqual(word_of(6, 2, 5), [0, 0, 1, 1, 0])

    def test_the_empty_word(self):
        for signs in ALL_SIGNS:
            self.assertEqual(number_of([], signs), 0)
            self.assertEqual(word_of(0, signs, 0), [])

    def test_least_and_greatest(self):
        for signs in ALL_SIGNS:
            for many in (1, 2, 7, 300):
                self.assertEqual(number_of([0] * many, signs), 0)
                self.assertEqual(word_of(0, signs, many), [0] * many)
                self.assertEqual(number_of([signs - 1] * many, signs), signs ** many - 1)
                self.assertEqual(word_of(signs ** many - 1, signs, many), [signs - 1] * many)

    def test_words_longer_than_any_bound(self):
        word = mixed_word(9, 700)
        self.assertEqual(word_of(number_of(word, 9), 9, 700), word)

    def test_a_word_is_a_list_of_whole_numbers(self):
        word = word_of(5, 2, 4)
        self.assertIs(type(word), list)
        self.assertEqual([type(sign) for sign in word], [int] * 4)
        self.assertIs(type(number_of(word, 2)), int)


class TestNoSuch(Refusals):
    def refused_number(self, number, signs, many):
        self.refused(NoSuch, word_of, number, signs, many)

    def test_below_nought(self):
        for signs in ALL_SIGNS:
            for many in (0, 1, 2, 300):
                self.refused_number(-1, signs, many)
                self.refused_number(-signs, signs, many)
                self.refused_number(-(10 ** 299), signs, many)

    def test_too_great(self):
        for signs in ALL_SIGNS:
            for many in (0, 1, 2, 7, 300):
                self.refused_number(signs ** many, signs, many)
                self.refused_number(signs ** many + 1, signs, many)
                self.refused_number(signs ** (many + 1), signs, many)


class TestNoRow(Refusals):
    def refused_word(self, word, signs, at):
        self.refused_at(at, number_of, word, signs)

    def test_whatever_is_no_sign_at_any_place(self):
        for signs in ALL_SIGNS:
            for wrong in NO_SIGNS + [signs, signs + 1]:
                for at in range(4):
                    self.refused_word([0] * at + [wrong] + [1] * (3 - at), signs, at)

    def test_the_greatest_sign_is_one(self):
        for signs in ALL_SIGNS:
            self.assertEqual(number_of([signs - 1], signs), signs - 1)
            self.refused_word([signs], signs, 0)

    def test_the_first_of_several(self):
        self.refused_word([0, 2, None, -1], 2, 1)
        self.refused_word([1, 0, "1", 5, True], 3, 2)
        self.refused_word([True, 9, []], 9, 0)
        self.refused_word([None, None], 4, 0)

    def test_far_behind(self):
        self.refused_word([0] * 299 + [True], 2, 299)
        self.refused_word([8] * 299 + [9], 9, 299)


if __name__ == "__main__":
    unittest.main()
