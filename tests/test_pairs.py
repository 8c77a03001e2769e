"""Pairs of nodes and their ranks, one to one, two unlike rings that are led to one ring (points 3 and 24 to 26)."""

import unittest

from helper import ALL_SIGNS, FOUR_PLACES, LARGE_WINDOWS, LOWS, Refusals
from helper import chain_rule, large_rule, longest_way, mark_rule, one_to_one_rules, renaming, ring_led, rule_of
from helper import rules_of_every_kind, shift, some_rules, steps_by_hand, sum_rule, tables_in_order, track_rule
from helper import ways_by_hand, words_in_order
from rowrules.errors import TooWide
from rowrules.forms import widened
from rowrules.joins import joined, turned
from rowrules.onto import onto
from rowrules.pairs import one_to_one, ranks, twins
from rowrules.rules import by_number

ELEMENTARY = [by_number(2, -1, 3, number) for number in range(256)]
ELEMENTARY_ONE_TO_ONE = [15, 51, 85, 170, 204, 240]
NEED_THE_EVEN_PAIR = [35, 49, 59, 115, 140, 196, 206, 220]


def ranks_by_hand(one):
    ahead = steps_by_hand(one)
    found = {}
    lengths = {pair: longest_way(ahead, pair, set(), found) for pair in ahead}
    if None in lengths.values():
        return None
    even = lengths.pop("even")
    return (even, sorted(pair + (length,) for pair, length in lengths.items()))


def comes_back_without_the_even_pair(one):
    ahead = steps_by_hand(one)
    ahead = {pair: ahead[pair] - {"even"} for pair in ahead if pair != "even"}
    found = {}
    return None in [longest_way(ahead, pair, set(), found) for pair in ahead]


def unlike_rings_are_led_to_unlike_ones(one, length):
    rings = words_in_order(one[0], length)
    return len({tuple(ring_led(one, ring)) for ring in rings}) == len(rings)


class TestRanks(Refusals):
    def test_by_hand(self):
        self.assertEqual(ranks((2, 0, (0, 1))), (0, [(0, 1, 1), (1, 0, 1)]))
        self.assertEqual(ranks((2, 5, (1, 0))), (0, [(0, 1, 1), (1, 0, 1)]))
        self.assertIsNone(ranks((2, 0, (1, 1))))
        self.assertIsNone(ranks((2, 0, (0, 1, 1, 0))))
        # 0 and 1 are changed for one another ahead of a 2, which stays: (0, 1) steps to (1, 2), (0, 2) and back.
        self.assertEqual(ranks(mark_rule(3, 0)), (0, [
            (0, 1, 1), (0, 2, 2), (1, 0, 1), (1, 2, 2), (2, 0, 2), (2, 1, 2),
        ]))

    def test_against_the_longest_ways_walked_by_hand(self):
        for one in one_to_one_rules():
            self.assertEqual(ranks(one), ranks_by_hand(one))
        for one in rules_of_every_kind():
            self.assertEqual(ranks(one), ranks_by_hand(one))

    def test_all_elementary_rules(self):
        for one in ELEMENTARY:
            self.assertEqual(ranks(one), ranks_by_hand(one))

    def test_all_tables_of_three_signs_that_are_led_by_one_place_and_some_of_two(self):
        for table in tables_in_order(3, 1):
            self.assertEqual(ranks((3, 0, table)), ranks_by_hand((3, 0, table)))
        for one in some_rules(3, 2, 0, 60) + some_rules(2, 4, 0, 40):
            self.assertEqual(ranks(one), ranks_by_hand(one))

    def test_the_even_pairs_rank(self):
        for signs in ALL_SIGNS:
            self.assertEqual(ranks(shift(signs, 0))[0], 0)
        self.assertEqual([ranks(track_rule(2, 2, 0))[0], ranks(turned(chain_rule(6, 0, 3)))[0]], [1, 3])
        self.assertEqual([ranks(chain_rule(6, 0, 3))[0], ranks(chain_rule(9, 0, 4))[0]], [0, 0])
        self.assertEqual(ranks(turned(chain_rule(9, 0, 4)))[0], 4)

    def test_each_pair_of_unlike_nodes_once_and_sorted(self):
        for one in one_to_one_rules():
            even, rows = ranks(one)
            many = len({u for u, v, told in ways_by_hand(one)})
            self.assertEqual([row[:2] for row in rows], [(u, v) for u in range(many) for v in range(many) if u != v])
            self.assertEqual((type(ranks(one)), type(even), type(rows)), (tuple, int, list))
            for row in rows:
                self.assertEqual((type(row), len(row), type(row[2])), (tuple, 3, int))
                self.assertIn((row[1], row[0], row[2]), rows)

    def test_the_rank_rises_with_each_step(self):
        for one in one_to_one_rules():
            even, rows = ranks(one)
            rank = {row[:2]: row[2] for row in rows}
            rank["even"] = even
            for come, begins in steps_by_hand(one).items():
                for begin in begins:
                    self.assertLess(rank[begin], rank[come])

    def test_low_and_the_window_are_not_looked_at(self):
        for low in LOWS:
            self.assertEqual(ranks((4, low, chain_rule(4, 0, 2)[2])), ranks(chain_rule(4, 0, 2)))
        self.assertEqual(ranks(widened(chain_rule(4, 0, 2), -2, 1)), ranks(chain_rule(4, 0, 2)))
        self.assertEqual(ranks(widened(shift(2, 0), -4, 3)), ranks(shift(2, 0)))

    def test_rules_that_are_not_small(self):
        for signs, many in LARGE_WINDOWS:
            for call in (ranks, one_to_one, twins):
                self.refused(TooWide, call, large_rule(signs, many, -1))
                self.refused(TooWide, call, sum_rule(signs, 0, many, [0, many - 1]))

    def test_the_lists_are_the_askers_own(self):
        for one in (shift(2, 0), mark_rule(3, 0)):
            early = ranks(one)
            ranks(one)[1].clear()
            ranks(one)[1][0] = None
            self.assertEqual(early, ranks_by_hand(one))
            self.assertEqual(ranks(one), ranks_by_hand(one))


class TestOneToOne(unittest.TestCase):
    def test_elementary_rules(self):
        self.assertEqual([number for number, one in enumerate(ELEMENTARY) if one_to_one(one)], ELEMENTARY_ONE_TO_ONE)

    def test_kinds_that_are(self):
        for one in one_to_one_rules():
            self.assertIs(one_to_one(one), True)
            self.assertIs(one_to_one(turned(one)), True)
            self.assertIs(onto(one), True)
            for length in range(1, {2: 7, 3: 5, 4: 4}.get(one[0], 3)):
                self.assertTrue(unlike_rings_are_led_to_unlike_ones(one, length))

    def test_kinds_that_are_not(self):
        for signs in ALL_SIGNS:
            self.assertIs(one_to_one((signs, 3, (1,) * signs)), False)
            self.assertIs(one_to_one((signs, 3, (1, 1) + tuple(range(2, signs)))), False)
            self.assertIs(one_to_one(rule_of(signs, 0, 2, max)), False)

    def test_onto_but_not_one_to_one(self):
        for signs in ALL_SIGNS:
            self.assertIs(onto(sum_rule(signs, -1, 2, [0, 1])), True)
            self.assertIs(one_to_one(sum_rule(signs, -1, 2, [0, 1])), False)
        for number in (30, 45, 90, 105, 150):
            self.assertEqual((onto(ELEMENTARY[number]), one_to_one(ELEMENTARY[number])), (True, False))

    def test_just_where_there_are_ranks_and_no_twins(self):
        for one in list(rules_of_every_kind()) + list(one_to_one_rules()):
            self.assertIs(one_to_one(one), ranks(one) is not None)
            self.assertIs(one_to_one(one), twins(one) is None)

    def test_rules_of_two_signs_and_four_places(self):
        near = [number + more for number in FOUR_PLACES for more in (-1, 0, 1, 256)] + list(range(0, 65536, 501))
        for number in near:
            self.assertIs(one_to_one(by_number(2, 0, 4, number)), number in FOUR_PLACES)

    def test_of_two_rules_the_whole_is_one_to_one_just_where_both_are(self):
        rules = [(2, 0, table) for table in tables_in_order(2, 2)]
        for one in rules:
            for other in rules:
                self.assertIs(one_to_one(joined(one, other)), one_to_one(one) and one_to_one(other))
        for signs in range(3, 10):
            rules = [renaming(signs, 1), (signs, 0, (1,) * signs), (signs, -1, tuple(reversed(range(signs))))]
            for one in rules + [mark_rule(signs, 0), sum_rule(signs, 0, 2, [0, 1])]:
                for other in rules:
                    self.assertIs(one_to_one(joined(one, other)), one_to_one(one) and one_to_one(other))
                    self.assertIs(one_to_one(joined(other, one)), one_to_one(one) and one_to_one(other))


class TestTwins(unittest.TestCase):
    def are_twins(self, one):
        told = twins(one)
        self.assertEqual((type(told), len(told)), (tuple, 2))
        ring, other = told
        self.assertEqual((type(ring), type(other)), (list, list))
        self.assertTrue(1 <= len(ring) == len(other) <= 100)
        self.assertTrue(all(type(sign) is int and 0 <= sign < one[0] for sign in ring + other))
        self.assertNotEqual(ring, other)
        self.assertEqual(ring_led(one, ring), ring_led(one, other))
        self.assertEqual(twins(one), told)

    def test_rules_of_every_kind(self):
        for one in rules_of_every_kind():
            if ranks_by_hand(one) is None:
                self.are_twins(one)
            else:
                self.assertIsNone(twins(one))

    def test_all_elementary_rules_and_many_others(self):
        for number, one in enumerate(ELEMENTARY):
            if number not in ELEMENTARY_ONE_TO_ONE:
                self.are_twins(one)
        for one in some_rules(2, 4, -1, 200) + some_rules(3, 3, 5, 60) + some_rules(9, 2, 0, 20):
            self.are_twins(one)

    def test_none_where_the_rule_is_one_to_one(self):
        for one in one_to_one_rules():
            self.assertIsNone(twins(one))

    def test_rules_that_need_the_even_pair_and_rules_that_do_not(self):
        for number in NEED_THE_EVEN_PAIR:
            self.assertFalse(comes_back_without_the_even_pair(ELEMENTARY[number]))
            self.are_twins(ELEMENTARY[number])
        for one in [sum_rule(signs, low, 2, [0, 1]) for signs in ALL_SIGNS for low in (0, -1)]:
            self.assertTrue(comes_back_without_the_even_pair(one))
            self.are_twins(one)

    def test_rules_near_to_such_that_are_one_to_one(self):
        for one in one_to_one_rules():
            for at in (0, len(one[2]) // 2, len(one[2]) - 1):
                table = list(one[2])
                table[at] = (table[at] + 1) % one[0]
                self.are_twins((one[0], one[1], tuple(table)))

    def test_low_near_far_and_below_nought(self):
        for low in LOWS:
            for one in some_rules(2, 3, low) + some_rules(4, 2, low) + [(2, low, (1, 1)), sum_rule(3, low, 2, [0, 1])]:
                self.are_twins(one)

    def test_the_same_ones_each_time(self):
        rules = [one for one in rules_of_every_kind() if not one_to_one(one)]
        first = [twins(one) for one in rules]
        for one in rules:
            ranks(one)
            ring, other = twins(one)
            ring.append(1)
            other.clear()
        self.assertEqual([twins(one) for one in reversed(rules)], list(reversed(first)))

    def test_wide_windows(self):
        for one in (sum_rule(2, -3, 8, [2, 4]), (2, 0, (1,) * 256), sum_rule(3, 0, 5, [2, 3])):
            self.are_twins(one)


if __name__ == "__main__":
    unittest.main()
