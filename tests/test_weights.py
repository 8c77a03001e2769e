"""Weights and totals, gains and flows, what is kept, a ring whose total changes (points 3 and 28 to 30)."""

import random
import unittest

from helper import ALL_SIGNS, LARGE_WINDOWS, LOWS, NO_SIGNS, SMALL_WINDOWS, Refusals
from helper import frame_by_hand, large_rule, mark_rule, mixed_word, number_by_hand, one_to_one_rules, places_by, ring_led
from helper import rule_of, rules_of_every_kind, shift, some_rules, stretch_led, sum_rule, tables_in_order, track_rule
from helper import words_in_order
from rowrules.errors import NoWeights, TooWide
from rowrules.forms import widened
from rowrules.rules import by_number
from rowrules.weights import changed, flows, kept, total

ELEMENTARY = [by_number(2, -1, 3, number) for number in range(256)]
GREAT = 10 ** 299
NO_NUMBERS = [thing for thing in NO_SIGNS if type(thing) is not int]


def total_by_hand(signs, weights, ring):
    many = next(k for k in range(1, 20) if signs ** k == len(weights))
    words = [[ring[(i + k) % len(ring)] for k in range(many)] for i in range(len(ring))]
    return sum(weights[number_by_hand(word, signs)] for word in words)


def words_weighed(one, weights):
    """For each word of L signs the numbers of the words without its last and without its first sign, and its gain."""
    framed = frame_by_hand(one)
    signs = one[0]
    many = next(k for k in range(1, 20) if signs ** k == len(weights))
    for word in words_in_order(signs, places_by(framed) + many - 1):
        gain = weights[number_by_hand(stretch_led(framed, word), signs)] - weights[number_by_hand(word[:many], signs)]
        yield number_by_hand(word[:-1], signs), number_by_hand(word[1:], signs), gain


# Any way about is walked to find the flows, and all gains are looked at then.
def flows_by_hand(one, weights):
    rows = list(words_weighed(one, weights))
    found = {0: 0}
    while len(found) < len(rows) // one[0]:
        for begin, end, gain in reversed(rows):
            if begin in found and end not in found:
                found[end] = found[begin] - gain
            if end in found and begin not in found:
                found[begin] = found[end] + gain
    if all(found[begin] - found[end] == gain for begin, end, gain in rows):
        return [found[number] for number in range(len(found))]
    return None


def changes(one, weights, ring):
    return total_by_hand(one[0], weights, ring) != total_by_hand(one[0], weights, ring_led(one, ring))


# The rings among which point 30 says there always is one.
def kept_by_rings(one, weights):
    many = places_by(frame_by_hand(one)) + next(k for k in range(1, 20) if one[0] ** k == len(weights)) - 2
    rings = [[0] * many + word for more in (0, 1) for word in words_in_order(one[0], many + more)]
    return not any(changes(one, weights, ring) for ring in rings)


def some_weights(signs, many, seed=0):
    source = random.Random(seed)
    return [source.randrange(-9, 10) for k in range(signs ** many)]


# What the words' beginnings weigh less what their ends do: on a ring it comes to 0, and one number for all is added.
def weights_of_ends(signs, many, seed=0, more=3):
    source = random.Random(seed)
    ends = [source.randrange(-GREAT, GREAT) for k in range(signs ** (many - 1))]
    return [
        ends[number_by_hand(word[:-1], signs)] - ends[number_by_hand(word[1:], signs)] + more
        for word in words_in_order(signs, many)
    ]


def most_weighed(one):
    """The greatest k such that signs to the power L is at most 729."""
    return max(k for k in range(1, 10) if one[0] ** (places_by(frame_by_hand(one)) + k - 1) <= 729)


class TestTotal(Refusals):
    def test_by_hand(self):
        self.assertEqual(total(2, [0, 1], [1, 1, 0, 1]), 3)
        self.assertEqual(total(2, [0, 0, 0, 1], [1, 1, 0, 1]), 2)
        self.assertEqual(total(2, [5, 7], [0]), 5)
        self.assertEqual(total(2, [1, 10, 100, 1000], [1]), 1000)
        self.assertEqual(total(2, [1, 10, 100, 1000], [0, 1]), 110)
        self.assertEqual(total(3, [-1, 0, 4], [2, 2, 0]), 7)

    def test_every_length_of_rings_and_of_words(self):
        for signs, longest in ((2, 9), (3, 6), (4, 4), (5, 4), (6, 3), (7, 3), (8, 3), (9, 3)):
            for many in range(1, longest + 1):
                weights = some_weights(signs, many, many)
                for length in list(range(1, 14)) + [299, 300]:
                    ring = mixed_word(signs, length)
                    self.assertEqual(total(signs, weights, ring), total_by_hand(signs, weights, ring))

    def test_all_short_rings(self):
        for signs in ALL_SIGNS:
            for many in (1, 2, 3):
                weights = some_weights(signs, many, signs)
                for length in (1, 2, 3):
                    for ring in words_in_order(signs, length)[::3]:
                        self.assertEqual(total(signs, weights, ring), total_by_hand(signs, weights, ring))

    def test_great_weights(self):
        for signs in ALL_SIGNS:
            weights = [(-1) ** k * (GREAT - k) for k in range(signs ** 2)]
            ring = mixed_word(signs, 300)
            self.assertEqual(total(signs, weights, ring), total_by_hand(signs, weights, ring))
            self.assertEqual(total(signs, [-GREAT] * signs, ring), -300 * GREAT)

    def test_turned_rings_weigh_as_much(self):
        weights = some_weights(3, 3)
        ring = mixed_word(3, 10)
        self.assertEqual(len({total(3, weights, ring[k:] + ring[:k]) for k in range(10)}), 1)

    def test_lists_of_another_length(self):
        for signs in ALL_SIGNS:
            for length in range(83):
                if length not in (signs, signs ** 2, signs ** 3, signs ** 4, signs ** 5, signs ** 6):
                    self.refused(NoWeights, total, signs, [0] * length, [0])
            for length in (999, 1000):
                self.refused(NoWeights, total, signs, [1] * length, [0])
            for length in (0, 1):
                self.refused(NoWeights, total, signs, [1] * length, [0])

    def test_what_is_no_whole_number(self):
        for signs in (2, 3, 9):
            for wrong in NO_NUMBERS:
                for at in range(signs):
                    self.refused(NoWeights, total, signs, [0] * at + [wrong] + [0] * (signs - at - 1), [0])
                self.refused(NoWeights, total, signs, [0] * (signs ** 2 - 1) + [wrong], [0])
                self.refused(NoWeights, total, signs, [wrong] * signs ** 2, [0])
                self.refused(NoWeights, total, signs, [wrong], [0])

    def test_what_is_no_list(self):
        for wrong in (None, (0, 1), "01", {0: 1, 1: 0}, 5):
            self.refused(NoWeights, total, 2, wrong, [0])

    def test_what_is_no_ring(self):
        def weighed(one, ring):
            return total(one[0], [1] * one[0], ring)

        for signs in ALL_SIGNS:
            self.words_alone(weighed, shift(signs, 0), 1)
            self.refused_at(0, total, signs, [1] * signs, [])
            self.refused_at(0, total, signs, [1] * signs ** 2, [])

    def test_no_weights_goes_first(self):
        for ring in ([], [None], [0, 9], [0, True]):
            self.refused(NoWeights, total, 2, [1, 2, 3], ring)
            self.refused(NoWeights, total, 2, [1, True], ring)
            self.refused(NoWeights, total, 2, [], ring)


class TestFlows(Refusals):
    def are_flows(self, one, weights):
        told = flows(one, weights)
        self.assertEqual(told, flows_by_hand(one, weights))
        self.assertIs(kept(one, weights), told is not None)
        if told is not None:
            self.assertIs(type(told), list)
            self.assertEqual(told[0], 0)
            for begin, end, gain in words_weighed(one, weights):
                self.assertEqual(gain, told[begin] - told[end])

    def test_by_hand(self):
        # 110 is told 0, so its gain is 0 - 1: the flow of 11 less that of 10. All others but 011 gain nothing.
        self.assertEqual(flows(ELEMENTARY[184], [0, 1]), [0, 0, 0, -1])
        self.assertEqual(flows(shift(2, 5), [0, 1]), [0, 0])
        self.assertIsNone(flows(ELEMENTARY[110], [0, 1]))
        self.assertEqual(flows((2, 0, (1, 1)), [7, 7]), [0, 0])

    def test_rules_of_every_kind(self):
        for one in rules_of_every_kind():
            for many in range(1, min(2, most_weighed(one)) + 1):
                self.are_flows(one, some_weights(one[0], many))
                self.are_flows(one, weights_of_ends(one[0], many))
        for one in one_to_one_rules():
            self.are_flows(one, list(range(one[0])))

    def test_all_elementary_rules(self):
        for one in ELEMENTARY:
            for weights in ([0, 1], [3, 3], [0, 1, 0, 0], [0, 0, 0, 1], [1, 2, 2, 5], [0, 0, 1, 0, 0, 1, 0, 0]):
                self.are_flows(one, weights)

    def test_words_of_every_length_up_to_the_bound(self):
        for signs, many in SMALL_WINDOWS:
            for one in (some_rules(signs, many, 0, 1)[0], shift(signs, 4)):
                for k in range(1, most_weighed(one) + 1):
                    self.are_flows(one, weights_of_ends(signs, k, k))
                    self.are_flows(one, some_weights(signs, k, k))
                    self.assertIs(kept(one, weights_of_ends(signs, k, k)), True)

    def test_great_weights(self):
        for weights in ([0, GREAT], [-GREAT, GREAT - 1], [GREAT, GREAT]):
            self.are_flows(ELEMENTARY[184], weights)
            self.are_flows(ELEMENTARY[30], weights)
        self.assertEqual(flows(ELEMENTARY[184], [0, GREAT]), [0, 0, 0, -GREAT])
        self.assertIs(kept(ELEMENTARY[184], [-GREAT, GREAT]), True)

    def test_low_and_the_window_are_not_looked_at(self):
        for low in LOWS:
            one = (2, low, ELEMENTARY[184][2])
            self.assertEqual(flows(one, [0, 1]), [0, 0, 0, -1])
            self.assertEqual(changed(one, [0, 1, 1, 1]) is None, flows_by_hand(one, [0, 1, 1, 1]) is not None)
        self.assertEqual(flows(widened(ELEMENTARY[184], -4, 3), [0, 1]), [0, 0, 0, -1])
        self.assertEqual(len(flows(widened(shift(2, 3), 0, 7), [0] * 256)), 256)

    def test_the_lists_are_the_askers_own(self):
        weights = [0, 1]
        early = flows(ELEMENTARY[184], weights)
        flows(ELEMENTARY[184], weights).append(3)
        flows(ELEMENTARY[184], weights)[3] = 0
        self.assertEqual((early, weights), ([0, 0, 0, -1], [0, 1]))
        self.assertEqual(flows(ELEMENTARY[184], weights), early)


class TestKept(unittest.TestCase):
    def test_elementary_rules_that_keep_the_number_of_ones(self):
        found = [number for number, one in enumerate(ELEMENTARY) if kept(one, [0, 1])]
        self.assertEqual(found, [170, 184, 204, 226, 240])

    def test_against_the_rings_of_point_30(self):
        for one in ELEMENTARY[::3] + some_rules(2, 4, 0, 4) + some_rules(3, 2, -1, 6):
            for weights in (some_weights(one[0], 1), some_weights(one[0], 2), [1] * one[0], weights_of_ends(one[0], 2)):
                self.assertIs(kept(one, weights), kept_by_rings(one, weights))

    def test_all_rules_of_two_places(self):
        for table in tables_in_order(2, 2):
            for weights in ([0, 1], [0, 0, 0, 1], [0, 1, 2, 3], [0, 1, -1, 0], [2, 3, 1, 2]):
                self.assertIs(kept((2, 0, table), weights), kept_by_rings((2, 0, table), weights))

    def test_rules_that_keep_the_number_of_each_sign(self):
        for signs in ALL_SIGNS:
            for sign in range(signs):
                weights = [1 if each == sign else 0 for each in range(signs)]
                self.assertIs(kept(shift(signs, 2), weights), True)
                self.assertIs(kept(rule_of(signs, 0, 2, max), weights), False)
            if signs > 2:
                self.assertIs(kept(mark_rule(signs, 0), [0] * (signs - 1) + [1]), True)
                self.assertIs(kept(mark_rule(signs, 0), [0] + [1] * (signs - 1)), False)

    def test_tracks(self):
        for width, height in ((2, 2), (2, 3), (3, 2), (3, 3)):
            one = track_rule(width, height, -1)
            apart = [7 * (sign // height) ** 2 - 5 * (sign % height) ** 3 for sign in range(width * height)]
            self.assertIs(kept(one, apart), True)
            self.assertIs(kept(one, [(sign // height) * (sign % height) for sign in range(width * height)]), False)

    def test_rules_that_keep_pairs(self):
        bounds = [number for number, one in enumerate(ELEMENTARY) if kept(one, [0, 1, 0, 0])]
        self.assertEqual(bounds, [number for number, one in enumerate(ELEMENTARY) if kept_by_rings(one, [0, 1, 0, 0])])
        self.assertTrue({14, 15, 35, 43, 142, 170, 204} <= set(bounds))
        self.assertIs(kept(ELEMENTARY[14], [0, 1]), False)
        self.assertIs(kept(ELEMENTARY[184], [0, 0, 0, 1]), False)
        self.assertIs(kept(shift(9, 1), some_weights(9, 2)), True)

    def test_one_number_for_all(self):
        for one in rules_of_every_kind():
            self.assertIs(kept(one, [5] * one[0]), True)
            self.assertIs(kept(one, [-GREAT] * one[0] ** most_weighed(one)), True)
        for signs in ALL_SIGNS:
            one = (signs, 1, (1,) * signs)
            self.assertIs(kept(one, list(range(signs))), False)


class TestChanged(Refusals):
    def is_changed(self, one, weights):
        ring = changed(one, weights)
        self.assertIs(type(ring), list)
        self.assertTrue(1 <= len(ring) <= 40)
        self.assertTrue(all(type(sign) is int and 0 <= sign < one[0] for sign in ring))
        self.assertTrue(changes(one, weights, ring))
        self.assertEqual(changed(one, weights), ring)

    def is_changed_or_kept(self, one, weights):
        if flows_by_hand(one, weights) is None:
            self.is_changed(one, weights)
        else:
            self.assertIsNone(changed(one, weights))

    def test_rules_of_every_kind(self):
        for one in rules_of_every_kind():
            for many in range(1, min(2, most_weighed(one)) + 1):
                self.is_changed_or_kept(one, some_weights(one[0], many))
                self.is_changed_or_kept(one, weights_of_ends(one[0], many))

    def test_all_elementary_rules(self):
        for one in ELEMENTARY:
            for weights in ([0, 1], [4, 4], [0, 1, 0, 0], [0, 0, 0, 1], [0, 0, 0, 0, 0, 1, 0, 0]):
                self.is_changed_or_kept(one, weights)

    def test_all_rules_of_two_places(self):
        for table in tables_in_order(2, 2):
            for number in range(16):
                self.is_changed_or_kept((2, 0, table), [number >> k & 1 for k in range(4)])

    def test_words_of_every_length_up_to_the_bound(self):
        for signs, many in SMALL_WINDOWS:
            one = some_rules(signs, many, -1, 1)[0]
            for k in range(1, most_weighed(one) + 1):
                self.is_changed_or_kept(one, some_weights(signs, k, k))
                weights = weights_of_ends(signs, k, k)
                self.assertIsNone(changed(one, weights))
                weights[-1] += 1
                self.is_changed_or_kept(one, weights)

    def test_low_near_far_and_below_nought(self):
        for low in LOWS:
            for one in some_rules(2, 3, low) + some_rules(4, 2, low) + [(2, low, (1, 1)), (3, low, (1, 2, 0))]:
                self.is_changed_or_kept(one, list(range(one[0])))

    def test_great_weights(self):
        for one in (ELEMENTARY[30], ELEMENTARY[184], sum_rule(3, 0, 2, [0, 1])):
            self.is_changed_or_kept(one, [GREAT + k * k for k in range(one[0] ** 2)])
            self.is_changed_or_kept(one, [-GREAT] * (one[0] - 1) + [1 - GREAT])

    def test_the_same_one_each_time(self):
        rules = list(rules_of_every_kind())
        first = [changed(one, list(range(one[0]))) for one in rules]
        for one in rules:
            kept(one, [1] * one[0])
            ring = changed(one, list(range(one[0])))
            if ring is not None:
                ring.clear()
        again = [changed(one, list(range(one[0]))) for one in reversed(rules)]
        self.assertEqual(again, list(reversed(first)))


class TestRefusals(Refusals):
    def test_lists_of_another_length(self):
        for call in (flows, kept, changed):
            for signs in ALL_SIGNS:
                for length in (0, 1, signs - 1, signs + 1, signs ** 2 - 1, signs ** 2 + 1, 2 * signs * signs + 1, 1000):
                    if length != signs ** 2:
                        self.refused(NoWeights, call, shift(signs, 1), [0] * length)

    def test_what_is_no_whole_number(self):
        for call in (flows, kept, changed):
            for wrong in NO_NUMBERS:
                for signs in (2, 3, 9):
                    for at in range(signs):
                        self.refused(NoWeights, call, shift(signs, 1), [0] * at + [wrong] + [0] * (signs - at - 1))
                    self.refused(NoWeights, call, shift(signs, 1), [wrong] * (signs + 1))
            for wrong in (None, (0, 1)):
                self.refused(NoWeights, call, shift(2, 0), wrong)

    def test_rules_that_are_not_small_are_refused_first(self):
        for signs, many in LARGE_WINDOWS:
            for call in (flows, kept, changed):
                for weights in ([0] * signs, [], [None] * signs, [0] * (signs + 1)):
                    self.refused(TooWide, call, large_rule(signs, many, -1), weights)

    def test_the_bound_of_729(self):
        reached = []
        for signs, many in SMALL_WINDOWS:
            one = large_rule(signs, many)
            most = most_weighed(one)
            reached.append(signs ** (places_by(frame_by_hand(one)) + most - 1))
            for call in (flows, kept, changed):
                call(one, [1] * signs ** most)
                self.refused(TooWide, call, one, [1] * signs ** (most + 1))
                self.refused(TooWide, call, one, list(range(signs ** (most + 1))))
                self.refused(NoWeights, call, one, [1] * (signs ** (most + 1) - 1) + [True])
                self.refused(NoWeights, call, one, [1] * (signs ** (most + 1) + 1))
        self.assertIn(729, reached)


if __name__ == "__main__":
    unittest.main()
