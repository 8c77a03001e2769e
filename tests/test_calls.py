"""What holds for every call: what is given and what is told stay apart, equal calls are answered equally (point 2)."""

import copy
import unittest

from rowrules.back import way_back
from rowrules.basis import all_kept, changes
from rowrules.before import all_before, before_at, many_before, place_before
from rowrules.book import Book
from rowrules.errors import RowError
from rowrules.forms import counting, narrow, same, widened
from rowrules.frames import everything, frame, nodes, step
from rowrules.joins import joined, moved, repeated, turned
from rowrules.onto import lost, onto, reach_paper
from rowrules.pairs import one_to_one, ranks, twins
from rowrules.papers import BackPaper, ChangePaper, KeepingPaper, LostPaper, OntoPaper, Paper, RankPaper, TwinPaper
from rowrules.papers import paper_for
from rowrules.reaches import pair_paper, reaches
from rowrules.ringcounts import rings_before
from rowrules.rows import after, comes_again, led, led_ring
from rowrules.rules import by_number, next_sign, number_by, places, rule, still
from rowrules.texts import read_rule, read_word, show_rule, show_word
from rowrules.weights import changed, flows, kept, total
from rowrules.words import is_whole, number_of, word_of

ONE = (2, -1, (0, 1, 1, 1, 0, 1, 1, 0))
STILL = (2, 0, (0, 1))
WIDE = (2, 0, (0, 1) * 127 + (1, 1))
BOTH_ONE = (2, 0, (0, 0, 0, 1))
# Two tracks, of which one is moved.
TRACKS = (4, 0, (0, 1, 0, 1) * 2 + (2, 3, 2, 3) * 2)


# What a paper tells, and whether it holds for some rules.
def asked(paper):
    return (paper.told(), [answer(paper.holds, [one]) for one in (ONE, STILL, BOTH_ONE, TRACKS, WIDE)])


def paper_of(kind, *made):
    return asked(kind(*made))


def asked_for(*given):
    return asked(paper_for(*given))


def said(rows):
    book = Book()
    return [answer(book.say, [row]) for row in rows]


CALLS = [
    (is_whole, [3]),
    (is_whole, [[True]]),
    (number_of, [[1, 0, 2], 3]),
    (number_of, [[0, [1], 2], 3]),
    (number_of, [[], 2]),
    (word_of, [5, 2, 4]),
    (word_of, [16, 2, 4]),
    (word_of, [-1, 2, 4]),
    (rule, [2, 0, [0, 1, 1, 0]]),
    (rule, [2, 0, [0, 1, 1]]),
    (rule, [2, 0, [0, [1], 1, 0]]),
    (rule, [[2], [0], [0, 1]]),
    (places, [ONE]),
    (next_sign, [ONE, [0, 1, 1]]),
    (next_sign, [ONE, [0, 1, 1, 1]]),
    (next_sign, [ONE, [0, 2]]),
    (number_by, [ONE]),
    (by_number, [2, -1, 3, 110]),
    (by_number, [2, -1, 3, 256]),
    (by_number, [2, -1, [3], [1]]),
    (still, [4]),
    (led, [ONE, [0, 1, 1, 0, 1]]),
    (led, [STILL, [0, 1, 1, 0, 1]]),
    (led, [ONE, []]),
    (led, [ONE, [0, [1], 1]]),
    (led_ring, [ONE, [0, 1, 1, 0, 1]]),
    (led_ring, [STILL, [0, 1]]),
    (led_ring, [ONE, []]),
    (after, [ONE, [0, 1, 1]]),
    (after, [ONE, [0, 1, 1], 0]),
    (after, [STILL, [0, 1, 1], 5]),
    (after, [ONE, [0, 1, 2], 0]),
    (comes_again, [ONE, [0, 1, 1, 0, 1]]),
    (comes_again, [ONE, [0, 1, 1, 0, 1], 2]),
    (comes_again, [ONE, [[]], 2]),
    (counting, [ONE]),
    (counting, [(2, 3, (1, 1))]),
    (narrow, [ONE]),
    (narrow, [WIDE]),
    (same, [ONE, ONE]),
    (same, [ONE, STILL]),
    (widened, [ONE, -2, 3]),
    (widened, [ONE, 0, 0]),
    (widened, [ONE, -10, 10]),
    (moved, [ONE, 4]),
    (turned, [ONE]),
    (joined, [ONE, STILL]),
    (joined, [ONE, (3, 0, (0, 1, 2))]),
    (joined, [ONE, WIDE]),
    (repeated, [ONE, 3]),
    (repeated, [ONE, 0]),
    (repeated, [ONE, 4]),
    (many_before, [ONE, [0, 1, 1]]),
    (many_before, [ONE, [0, 1, 3]]),
    (before_at, [ONE, [0, 1, 1], 1]),
    (before_at, [STILL, [0, 1, 1], 0]),
    (before_at, [ONE, [0, 1, 1], 100]),
    (before_at, [ONE, [0, [1], 1], 100]),
    (place_before, [ONE, [0, 1, 1]]),
    (place_before, [ONE, [0]]),
    (all_before, [ONE, [0, 1, 1]]),
    (all_before, [STILL, [0, 1, 1]]),
    (all_before, [ONE, [0, 1, 1], 2]),
    (all_before, [ONE, [0, 1, 1], 0]),
    (all_before, [ONE, [None]]),
    (frame, [ONE]),
    (frame, [STILL]),
    (frame, [WIDE]),
    (nodes, [ONE]),
    (nodes, [WIDE]),
    (everything, [ONE]),
    (everything, [WIDE]),
    (step, [ONE, 15, 0]),
    (step, [ONE, 0, 1]),
    (step, [WIDE, 0, 1]),
    (rings_before, [ONE, [0, 1, 1]]),
    (rings_before, [ONE, []]),
    (rings_before, [ONE, [0, [1]]]),
    (rings_before, [WIDE, [0, [1]]]),
    (reach_paper, [ONE]),
    (reach_paper, [STILL]),
    (reach_paper, [BOTH_ONE]),
    (reach_paper, [WIDE]),
    (onto, [ONE]),
    (onto, [STILL]),
    (onto, [WIDE]),
    (lost, [ONE]),
    (lost, [STILL]),
    (lost, [BOTH_ONE]),
    (lost, [WIDE]),
    (pair_paper, [BOTH_ONE, ONE]),
    (pair_paper, [ONE, TRACKS]),
    (pair_paper, [ONE, WIDE]),
    (reaches, [BOTH_ONE, ONE]),
    (reaches, [ONE, ONE]),
    (reaches, [STILL, TRACKS]),
    (reaches, [WIDE, ONE]),
    (ranks, [STILL]),
    (ranks, [TRACKS]),
    (ranks, [ONE]),
    (ranks, [WIDE]),
    (one_to_one, [TRACKS]),
    (one_to_one, [ONE]),
    (one_to_one, [WIDE]),
    (twins, [TRACKS]),
    (twins, [ONE]),
    (twins, [BOTH_ONE]),
    (twins, [WIDE]),
    (way_back, [STILL]),
    (way_back, [TRACKS]),
    (way_back, [ONE]),
    (way_back, [WIDE]),
    (total, [2, [0, 1], [1, 1, 0]]),
    (total, [2, [0, 1, 0, 5], [1]]),
    (total, [2, [0, [1]], []]),
    (total, [2, [0, 1], [0, [1]]]),
    (flows, [ONE, [1, 1]]),
    (flows, [STILL, [3, -1, 2, 10 ** 299]]),
    (flows, [ONE, [0, 1]]),
    (flows, [ONE, [0, [1]]]),
    (flows, [WIDE, [0, [1]]]),
    (flows, [ONE, [0] * 512]),
    (kept, [STILL, [0, 1]]),
    (kept, [ONE, [0, 1]]),
    (kept, [ONE, []]),
    (changed, [STILL, [0, 1]]),
    (changed, [ONE, [0, 1]]),
    (changed, [ONE, [0, 1, -1, 5]]),
    (changed, [ONE, [0, 1, -1]]),
    (all_kept, [STILL]),
    (all_kept, [TRACKS]),
    (all_kept, [ONE]),
    (all_kept, [WIDE]),
    (changes, [STILL]),
    (changes, [TRACKS]),
    (changes, [ONE]),
    (changes, [WIDE]),
    (paper_of, [Paper]),
    (paper_of, [OntoPaper, [3, 1]]),
    (paper_of, [LostPaper, [1, 0, 1]]),
    (paper_of, [RankPaper, 0, [(0, 1, 1), (1, 0, 1)]]),
    (paper_of, [BackPaper, STILL]),
    (paper_of, [TwinPaper, [0, 1], [1, 0]]),
    (paper_of, [KeepingPaper, [0, 1], [0, 0]]),
    (paper_of, [ChangePaper, [0, 1], [0, 1, 1]]),
    (asked_for, [STILL, "onto"]),
    (asked_for, [ONE, "onto"]),
    (asked_for, [TRACKS, "one"]),
    (asked_for, [ONE, "one"]),
    (asked_for, [ONE, "kept", [0, 1]]),
    (asked_for, [ONE, "kept", [1, 1]]),
    (asked_for, [ONE, "kept", [1, [1]]]),
    (asked_for, [ONE, "kept"]),
    (asked_for, [WIDE, "kept"]),
    (read_rule, ["2:-1:01110110"]),
    (read_rule, ["2:-1:0111011"]),
    (read_rule, [["2:-1:01110110"]]),
    (show_rule, [ONE]),
    (read_word, ["0123"]),
    (read_word, ["-"]),
    (read_word, ["9"]),
    (show_word, [[0, 1, 2]]),
    (show_word, [[]]),
    (said, [["rule a 2:-1:01110110", "show a", "names", "onto a", "back b a", ["names"], "names"]]),
    (said, [["names", "rule a 2:0:10", "turn b a", "join a a b", "show a", "drop b", "names", "kept a"]]),
]


def answer(call, given):
    try:
        return call(*given)
    except RowError as refusal:
        return (type(refusal), vars(refusal))


def change_lists(told):
    """Changes each list that the answer holds, at any depth."""
    if isinstance(told, (list, tuple)):
        for part in told:
            change_lists(part)
    if isinstance(told, list):
        told.append(99)
        told.reverse()


class TestCalls(unittest.TestCase):
    def test_what_is_given_stays_as_it_was(self):
        for call, given in CALLS:
            with self.subTest((call.__name__, given)):
                before = copy.deepcopy(given)
                answer(call, given)
                self.assertEqual(repr(given), repr(before))

    def test_equal_calls_are_answered_equally_in_any_order(self):
        first = [answer(call, copy.deepcopy(given)) for call, given in CALLS]
        again = [answer(call, copy.deepcopy(given)) for call, given in reversed(CALLS)]
        self.assertEqual(first, list(reversed(again)))

    def test_no_answer_that_is_changed_reaches_another_one_or_what_was_given(self):
        for call, given in CALLS:
            with self.subTest((call.__name__, given)):
                before = copy.deepcopy(given)
                early = answer(call, given)
                kept = copy.deepcopy(early)
                change_lists(answer(call, given))
                self.assertEqual(given, before)
                self.assertEqual(early, kept)
                self.assertEqual(answer(call, given), kept)

    def test_a_given_list_that_is_changed_later_reaches_no_answer(self):
        for call, given in CALLS:
            with self.subTest((call.__name__, given)):
                handed = copy.deepcopy(given)
                early = answer(call, handed)
                kept = copy.deepcopy(early)
                change_lists(handed)
                self.assertEqual(early, kept)
                self.assertEqual(answer(call, copy.deepcopy(given)), kept)

    def test_a_told_list_that_is_changed_reaches_no_other_answer(self):
        early = word_of(5, 2, 4)
        changed = word_of(5, 2, 4)
        changed.append(7)
        changed[0] = 9
        self.assertEqual(early, [0, 1, 0, 1])
        self.assertEqual(word_of(5, 2, 4), [0, 1, 0, 1])
        word_of(0, 2, 0).append(1)
        self.assertEqual(word_of(0, 2, 0), [])

    def test_a_given_list_that_is_changed_later_reaches_no_rule(self):
        table = [0, 1, 1, 0]
        one = rule(2, 0, table)
        table[0] = 1
        table.append(1)
        self.assertEqual(one, (2, 0, (0, 1, 1, 0)))

    def test_a_given_word_that_is_changed_is_read_anew(self):
        word = [0, 1, 1]
        self.assertEqual((number_of(word, 2), next_sign(ONE, word)), (3, 1))
        word[1] = 0
        self.assertEqual((number_of(word, 2), next_sign(ONE, word)), (1, 1))
        word[2] = 0
        self.assertEqual((number_of(word, 2), next_sign(ONE, word)), (0, 0))


if __name__ == "__main__":
    unittest.main()
