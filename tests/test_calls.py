"""What holds for every call: what is given and what is told stay apart, equal calls are answered equally (point 2)."""

import copy
import unittest

from rowrules.errors import RowError
from rowrules.rules import by_number, next_sign, number_by, places, rule, still
from rowrules.words import is_whole, number_of, word_of

ONE = (2, -1, (0, 1, 1, 1, 0, 1, 1, 0))
CALLS = [
    (is_whole, [3]),
    (is_whole, [[True]]),
    (number_of, [[1, 0, 2], 3]),
    (number_of, [[0, [1], 2], 3]),
    (number_of, [[], 2]),
    (word_of, [5, 2, 4]),
    (word_of, [16, 2, 4]),
    (word_of, [-1, 2, 4]),
    (rule, [2, 0, [0, 1, 1, 0]]),
    (rule, [2, 0, [0, 1, 1]]),
    (rule, [2, 0, [0, [1], 1, 0]]),
    (rule, [[2], [0], [0, 1]]),
    (places, [ONE]),
    (next_sign, [ONE, [0, 1, 1]]),
    (next_sign, [ONE, [0, 1, 1, 1]]),
    (next_sign, [ONE, [0, 2]]),
    (number_by, [ONE]),
    (by_number, [2, -1, 3, 110]),
    (by_number, [2, -1, 3, 256]),
    (by_number, [2, -1, [3], [1]]),
    (still, [4]),
]


def answer(call, given):
    try:
        return call(*given)
    except RowError as refusal:
        return (type(refusal), vars(refusal))


class TestCalls(unittest.TestCase):
    def test_what_is_given_stays_as_it_was(self):
        for call, given in CALLS:
            with self.subTest((call.__name__, given)):
                before = copy.deepcopy(given)
                answer(call, given)
                self.assertEqual(repr(given), repr(before))

    def test_equal_calls_are_answered_equally_in_any_order(self):
        first = [answer(call, copy.deepcopy(given)) for call, given in CALLS]
        again = [answer(call, copy.deepcopy(given)) for call, given in reversed(CALLS)]
        self.assertEqual(first, list(reversed(again)))

    def test_a_told_list_that_is_changed_reaches_no_other_answer(self):
        early = word_of(5, 2, 4)
        changed = word_of(5, 2, 4)
        changed.append(7)
        changed[0] = 9
        self.assertEqual(early, [0, 1, 0, 1])
        self.assertEqual(word_of(5, 2, 4), [0, 1, 0, 1])
        word_of(0, 2, 0).append(1)
        self.assertEqual(word_of(0, 2, 0), [])

    def test_a_given_list_that_is_changed_later_reaches_no_rule(self):
        table = [0, 1, 1, 0]
        one = rule(2, 0, table)
        table[0] = 1
        table.append(1)
        self.assertEqual(one, (2, 0, (0, 1, 1, 0)))

    def test_a_given_word_that_is_changed_is_read_anew(self):
        word = [0, 1, 1]
        self.assertEqual((number_of(word, 2), next_sign(ONE, word)), (3, 1))
        word[1] = 0
        self.assertEqual((number_of(word, 2), next_sign(ONE, word)), (1, 1))
        word[2] = 0
        self.assertEqual((number_of(word, 2), next_sign(ONE, word)), (0, 0))


if __name__ == "__main__":
    unittest.main()
