"""Whether one rule reaches the other's rows, the stretch where it doesn't, and the paper of it (point 23)."""

import unittest

from helper import ALL_SIGNS, LARGE_WINDOWS, LOWS, SMALL_WINDOWS, Refusals
from helper import all_nodes, frame_by_hand, large_rule, next_set, one_to_one_rules, places_by, rule_of
from helper import rules_of_every_kind, shift, some_rules, stretch_led, sum_rule, tables_in_order, ways_by_hand
from helper import words_in_order
from rowrules.errors import NoRule, TooWide
from rowrules.forms import widened
from rowrules.joins import joined
from rowrules.onto import lost, onto
from rowrules.reaches import pair_paper, reaches

BOTH_ONE = (2, 0, (0, 0, 0, 1))
ONE_OR_OTHER = (2, 0, (0, 1, 1, 1))


def paper_by_hand(one, other):
    ways, others = ways_by_hand(one), ways_by_hand(other)
    found = set()
    waiting = [(u, all_nodes(ways)) for u in range(len(others) // one[0])]
    while waiting:
        here = waiting.pop(0)
        if here not in found:
            found.add(here)
            waiting += [(v, next_set(ways, here[1], told)) for u, v, told in others if u == here[0]]
    return sorted(found)


# All stretches side by side, the shorter ones first and each length in the order of lists. Of those that lead the two
# frames to the same two sets of nodes the first is enough.
def reaches_by_hand(one, other):
    ways, others = ways_by_hand(one), ways_by_hand(other)
    start = (all_nodes(ways), all_nodes(others))
    seen = {start}
    found = [(start, [])]
    while found:
        further = []
        for (some, beside), stretch in found:
            for sign in range(one[0]):
                come = (next_set(ways, some, sign), next_set(others, beside, sign))
                if come[1] != 0 and come[0] == 0:
                    return stretch + [sign]
                if come not in seen:
                    seen.add(come)
                    further.append((come, stretch + [sign]))
        found = further
    return None


def first_among_all(one, other, longest):
    """The first stretch of at most so many signs to which something leads by the other and nothing by the one."""
    framed, beside = frame_by_hand(one), frame_by_hand(other)
    for length in range(longest + 1):
        come, reached = [
            {tuple(stretch_led(each, word)) for word in words_in_order(one[0], length + places_by(each) - 1)}
            for each in (framed, beside)
        ]
        for row in words_in_order(one[0], length):
            if tuple(row) in reached and tuple(row) not in come:
                return row
    return None


def pairs_of_rules():
    """Two small rules with as many signs, of every kind."""
    for signs, many in SMALL_WINDOWS:
        rules = some_rules(signs, many, -1, 2) + [rule_of(signs, 3, 2, max), shift(signs, -2)]
        for one in rules:
            for other in rules:
                yield one, other


class TestPairPaper(unittest.TestCase):
    def test_by_hand(self):
        # By BOTH_ONE a set comes from all nodes to the node 1 alone by a 1, and on to the node 0 alone by a 0.
        self.assertEqual(pair_paper((2, 0, (0, 1)), BOTH_ONE), [(0, 3), (1, 3)])
        self.assertEqual(pair_paper((2, 9, (1, 1)), (2, 0, (0, 0))), [(0, 0), (0, 3), (1, 0), (1, 3)])
        self.assertEqual(pair_paper((2, 9, (1, 1)), (2, 0, (1, 1))), [(0, 3), (1, 3)])
        self.assertEqual(pair_paper(BOTH_ONE, BOTH_ONE), [(0, 1), (0, 3), (1, 2), (1, 3)])

    def test_against_the_paper_walked_by_hand(self):
        for one, other in pairs_of_rules():
            self.assertEqual(pair_paper(one, other), paper_by_hand(one, other))

    def test_all_rules_of_two_places(self):
        rules = [(2, 0, table) for table in tables_in_order(2, 2)]
        for one in rules:
            for other in rules:
                self.assertEqual(pair_paper(one, other), paper_by_hand(one, other))

    def test_the_form_of_it(self):
        for one, other in pairs_of_rules():
            paper = pair_paper(one, other)
            self.assertIs(type(paper), list)
            self.assertEqual(paper, sorted(set(paper)))
            for row in paper:
                self.assertEqual((type(row), type(row[0]), type(row[1]), len(row)), (tuple, int, int, 2))
            for node in range(len(frame_by_hand(other)[2]) // other[0]):
                self.assertIn((node, all_nodes(ways_by_hand(one))), paper)

    def test_unlike_numbers_of_nodes(self):
        wide, slim = some_rules(2, 4, 0, 1)[0], (2, 0, (0, 1))
        self.assertEqual(len(pair_paper(slim, wide)), 8)
        self.assertEqual({row[1] for row in pair_paper(slim, wide)}, {3})
        self.assertEqual({row[0] for row in pair_paper(wide, slim)}, {0, 1})

    def test_the_lists_are_the_askers_own(self):
        early = pair_paper(BOTH_ONE, BOTH_ONE)
        pair_paper(BOTH_ONE, BOTH_ONE).clear()
        pair_paper(BOTH_ONE, BOTH_ONE)[0] = None
        self.assertEqual(early, paper_by_hand(BOTH_ONE, BOTH_ONE))
        self.assertEqual(pair_paper(BOTH_ONE, BOTH_ONE), early)


class TestReaches(Refusals):
    def test_by_hand(self):
        self.assertEqual(reaches(BOTH_ONE, (2, 0, (0, 1))), [1, 0, 1])
        self.assertEqual(reaches(BOTH_ONE, ONE_OR_OTHER), [1, 0, 1])
        self.assertEqual(reaches(ONE_OR_OTHER, BOTH_ONE), [0, 1, 0])
        for signs in ALL_SIGNS:
            self.assertEqual(reaches((signs, 4, (0,) * signs), (signs, 0, (1,) * signs)), [1])
            self.assertEqual(reaches((signs, 4, (1,) * signs), shift(signs, 8)), [0])
            self.assertEqual(reaches((signs, 4, (0,) * signs), (signs, 1, (0,) * signs ** 2)), None)

    def test_against_the_stretch_walked_by_hand(self):
        for one, other in pairs_of_rules():
            self.assertEqual(reaches(one, other), reaches_by_hand(one, other))

    def test_all_rules_of_two_places(self):
        rules = [(2, 0, table) for table in tables_in_order(2, 2)]
        for one in rules:
            for other in rules:
                self.assertEqual(reaches(one, other), reaches_by_hand(one, other))

    def test_some_rules_of_three_places_against_all_stretches(self):
        rules = some_rules(2, 3, 0, 12) + [BOTH_ONE, ONE_OR_OTHER]
        for one in rules:
            for other in rules:
                first = first_among_all(one, other, 7)
                if first is not None:
                    self.assertEqual(reaches(one, other), first)
                else:
                    self.assertTrue(reaches(one, other) is None or len(reaches(one, other)) > 7)

    def test_none_just_where_no_row_of_the_paper_has_the_set_nought(self):
        for one, other in pairs_of_rules():
            self.assertEqual(reaches(one, other) is None, all(row[1] != 0 for row in pair_paper(one, other)))

    def test_a_rule_and_itself(self):
        for one in rules_of_every_kind():
            self.assertIsNone(reaches(one, one))
            self.assertIsNone(reaches(one, (one[0], one[1] - 3, one[2])))

    def test_a_rule_and_the_one_that_stands_still(self):
        for one in rules_of_every_kind():
            self.assertEqual(reaches(one, shift(one[0], 0)), lost(one))
            self.assertIsNone(reaches(shift(one[0], 0), one))
            self.assertEqual(reaches(one, shift(one[0], 0)) is None, onto(one))

    def test_a_rule_and_the_same_rule_behind_another(self):
        for signs, many, others in ((2, 2, 2), (2, 2, 3), (2, 3, 2), (3, 2, 2), (5, 2, 1), (9, 1, 2)):
            for first in some_rules(signs, others, -2):
                for one in some_rules(signs, many, 1):
                    self.assertIsNone(reaches(one, joined(first, one)))
        self.assertEqual(reaches(joined(BOTH_ONE, BOTH_ONE), BOTH_ONE), [1, 0, 0, 1])

    def test_a_rule_behind_one_that_reaches_all(self):
        for first in one_to_one_rules():
            for one in some_rules(first[0], 1, 4, 2):
                self.assertIsNone(reaches(joined(first, one), one))
                self.assertIsNone(reaches(one, joined(first, one)))

    def test_low_and_the_window_are_not_looked_at(self):
        for low in LOWS:
            self.assertEqual(reaches((2, low, BOTH_ONE[2]), ONE_OR_OTHER), [1, 0, 1])
            self.assertEqual(reaches(BOTH_ONE, (2, low, ONE_OR_OTHER[2])), [1, 0, 1])
        self.assertEqual(reaches(widened(BOTH_ONE, -3, 4), widened(ONE_OR_OTHER, -4, 1)), [1, 0, 1])
        self.assertEqual(pair_paper(widened(BOTH_ONE, -3, 4), ONE_OR_OTHER), pair_paper(BOTH_ONE, ONE_OR_OTHER))

    def test_unlike_numbers_of_signs_go_first(self):
        for call in (reaches, pair_paper):
            for signs in ALL_SIGNS:
                for others in ALL_SIGNS:
                    if signs != others:
                        self.refused(NoRule, call, shift(signs, 0), shift(others, 0))
            self.refused(NoRule, call, large_rule(2, 8), shift(3, 0))
            self.refused(NoRule, call, shift(3, 0), large_rule(2, 8))
            self.refused(NoRule, call, large_rule(3, 5), large_rule(2, 8))

    def test_rules_that_are_not_small(self):
        for signs, many in LARGE_WINDOWS:
            for call in (reaches, pair_paper):
                self.refused(TooWide, call, large_rule(signs, many), shift(signs, 0))
                self.refused(TooWide, call, shift(signs, 0), large_rule(signs, many))
                self.refused(TooWide, call, sum_rule(signs, 0, many, [0, many - 1]), large_rule(signs, many))

    def test_the_answer_is_the_askers_own(self):
        reaches(BOTH_ONE, ONE_OR_OTHER).append(1)
        self.assertEqual(reaches(BOTH_ONE, ONE_OR_OTHER), [1, 0, 1])


if __name__ == "__main__":
    unittest.main()
