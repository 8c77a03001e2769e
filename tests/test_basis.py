"""All weights of single signs that a small rule keeps, and the rings beside them (points 3 and 31)."""

import math
import random
import unittest
from fractions import Fraction

from helper import ALL_SIGNS, LARGE_WINDOWS, LOWS, Refusals
from helper import chain_rule, large_rule, mark_rule, one_to_one_rules, renaming, ring_led, rules_of_every_kind, shift
from helper import some_rules, sum_rule, tables_in_order, track_rule, words_in_order
from rowrules.basis import all_kept, changes
from rowrules.errors import TooWide
from rowrules.forms import widened
from rowrules.rules import by_number
from rowrules.weights import flows, kept

ELEMENTARY = [by_number(2, -1, 3, number) for number in range(256)]
# Of three signs one weighs as much as a mixture of the two others.
LIKE_A_MIXTURE = {
    (0, 0, 1, 1, 1, 2, 1, 1, 2): [[1, 0, -1], [0, 1, 2]],
    (0, 0, 2, 1, 1, 0, 0, 0, 2): [[1, 0, 2], [0, 1, -1]],
    (0, 2, 0, 2, 1, 2, 2, 1, 2): [[2, 0, 1], [0, 2, 1]],
    (0, 1, 0, 0, 1, 0, 2, 0, 2): [[1, 0, 2], [0, 1, -1]],
}


def change_by_hand(one, ring):
    come = ring_led(one, ring)
    return [come.count(sign) - ring.count(sign) for sign in range(one[0])]


def many_apart(rows):
    """How many of the rows are no sums of those before them, reckoned with fractions."""
    rest = [[Fraction(number) for number in row] for row in rows]
    many = 0
    while rest:
        row = rest.pop()
        at = next((k for k, number in enumerate(row) if number != 0), None)
        if at is not None:
            many += 1
            rest = [[a - b * other[at] / row[at] for a, b in zip(other, row)] for other in rest]
    return many


def some_small_rules():
    yield from rules_of_every_kind()
    yield from one_to_one_rules()
    yield from some_rules(3, 2, 0, 20)
    yield from partly_keeping()


def partly_keeping():
    for table in LIKE_A_MIXTURE:
        yield (3, -1, table)
    for signs in ALL_SIGNS:
        # The last two signs become one another, the others stand still.
        yield (signs, 0, tuple(range(signs - 2)) + (signs - 1, signs - 2))
        for by in (2, 3):
            yield (signs, 1, tuple(sign % by for sign in range(signs)))


def weighs_the_same(weights, change):
    return sum(a * b for a, b in zip(weights, change)) == 0


class TestAllKept(Refusals):
    def test_by_hand(self):
        self.assertEqual(all_kept(ELEMENTARY[184]), [[1, 0], [0, 1]])
        self.assertEqual(all_kept(ELEMENTARY[110]), [[1, 1]])
        self.assertEqual(all_kept(mark_rule(3, 0)), [[1, 1, 0], [0, 0, 1]])
        # 0 and 2 become one another, and so do 1 and 3.
        self.assertEqual(all_kept((4, 7, (2, 3, 0, 1))), [[1, 0, 1, 0], [0, 1, 0, 1]])
        # The two tracks are 00, 01, 10 and 11: the weights of each track add up.
        self.assertEqual(all_kept(track_rule(2, 2, 0)), [[1, 0, 0, -1], [0, 1, 0, 1], [0, 0, 1, 1]])

    def test_a_sign_that_weighs_as_much_as_a_mixture_of_others(self):
        for table, weights in LIKE_A_MIXTURE.items():
            self.assertEqual(all_kept((3, 5, table)), weights)
            self.assertEqual(len(changes((3, 5, table))), 1)

    def test_everything_is_kept(self):
        for signs in ALL_SIGNS:
            single = [[1 if at == sign else 0 for at in range(signs)] for sign in range(signs)]
            for low in LOWS:
                self.assertEqual(all_kept(shift(signs, low)), single)
                self.assertEqual(changes(shift(signs, low)), [])

    def test_nothing_but_one_number_for_all(self):
        for signs in ALL_SIGNS:
            for one in (renaming(signs, 3), (signs, 0, (1,) * signs), sum_rule(signs, -1, 2, [0, 1])):
                self.assertEqual(all_kept(one), [[1] * signs])
                self.assertEqual(len(changes(one)), signs - 1)

    def test_some_are_kept(self):
        for width, height in ((2, 2), (2, 3), (3, 2), (2, 4), (4, 2), (3, 3)):
            self.assertEqual(len(all_kept(track_rule(width, height, 1))), width + height - 1)
        for signs in range(3, 10):
            self.assertEqual(len(all_kept(mark_rule(signs, 0))), signs - 1)
        self.assertEqual(len(all_kept(chain_rule(9, 0, 3))), 7)

    def test_the_form_of_each(self):
        for one in some_small_rules():
            told = all_kept(one)
            heads = [next(at for at, number in enumerate(weights) if number != 0) for weights in told]
            self.assertIs(type(told), list)
            self.assertEqual(heads, sorted(set(heads)))
            for weights, head in zip(told, heads):
                self.assertEqual((type(weights), len(weights)), (list, one[0]))
                self.assertGreater(weights[head], 0)
                self.assertEqual(math.gcd(*weights), 1)
                self.assertEqual([other[head] for other in told if other is not weights], [0] * (len(told) - 1))

    def test_each_is_kept(self):
        for one in some_small_rules():
            for weights in all_kept(one):
                self.assertIsNotNone(flows(one, weights))

    def test_just_sums_of_them_are_kept(self):
        source = random.Random(7)
        for one in some_small_rules():
            told = all_kept(one)
            for k in range(6):
                weights = [source.randrange(-2, 3) for sign in range(one[0])]
                self.assertIs(kept(one, weights), many_apart(told + [weights]) == len(told))
            mixed = [sum(k * weights[sign] for k, weights in enumerate(told, 2)) for sign in range(one[0])]
            self.assertIs(kept(one, mixed), True)

    def test_all_elementary_rules(self):
        for number, one in enumerate(ELEMENTARY):
            self.assertEqual(all_kept(one), [[1, 0], [0, 1]] if number in (170, 184, 204, 226, 240) else [[1, 1]])

    def test_rules_that_are_not_small(self):
        for signs, many in LARGE_WINDOWS:
            for call in (all_kept, changes):
                self.refused(TooWide, call, large_rule(signs, many, -1))
                self.refused(TooWide, call, sum_rule(signs, 0, many, [0, many - 1]))

    def test_the_lists_are_the_askers_own(self):
        early = all_kept(track_rule(2, 2, 0))
        for weights in all_kept(track_rule(2, 2, 0)):
            weights.append(5)
            weights[0] = 9
        all_kept(track_rule(2, 2, 0)).clear()
        self.assertEqual(early, [[1, 0, 0, -1], [0, 1, 0, 1], [0, 0, 1, 1]])
        self.assertEqual(all_kept(track_rule(2, 2, 0)), early)


class TestChanges(unittest.TestCase):
    def test_as_many_as_are_lacking(self):
        for one in some_small_rules():
            self.assertEqual(len(changes(one)), one[0] - len(all_kept(one)))

    def test_each_is_a_ring_of_at_most_forty_signs(self):
        for one in some_small_rules():
            self.assertIs(type(changes(one)), list)
            for ring in changes(one):
                self.assertIs(type(ring), list)
                self.assertTrue(1 <= len(ring) <= 40)
                self.assertTrue(all(type(sign) is int and 0 <= sign < one[0] for sign in ring))

    def test_no_change_is_a_sum_of_the_others(self):
        for one in some_small_rules():
            rows = [change_by_hand(one, ring) for ring in changes(one)]
            self.assertEqual(many_apart(rows), len(rows))

    def test_weights_are_kept_just_where_they_come_to_nought_with_each_change(self):
        source = random.Random(3)
        for one in some_small_rules():
            rows = [change_by_hand(one, ring) for ring in changes(one)]
            for weights in all_kept(one):
                self.assertTrue(all(weighs_the_same(weights, change) for change in rows))
            for k in range(5):
                weights = [source.randrange(-1, 2) for sign in range(one[0])]
                self.assertIs(kept(one, weights), all(weighs_the_same(weights, change) for change in rows))

    def test_the_change_of_each_ring_is_a_sum_of_theirs(self):
        for one in list(rules_of_every_kind())[::3] + [mark_rule(4, 0), track_rule(2, 2, 0), chain_rule(6, 0, 3)]:
            rows = [change_by_hand(one, ring) for ring in changes(one)]
            for length in range(1, {2: 8, 3: 5, 4: 4}.get(one[0], 3)):
                for ring in words_in_order(one[0], length)[::7]:
                    self.assertEqual(many_apart(rows + [change_by_hand(one, ring)]), len(rows))

    def test_all_tables_of_one_place(self):
        for signs in (2, 3, 4):
            for table in tables_in_order(signs, 1):
                one = (signs, 4, table)
                rows = [change_by_hand(one, [sign]) for sign in range(signs)]
                self.assertEqual(len(changes(one)), many_apart(rows))
                for weights in all_kept(one):
                    self.assertTrue(all(weighs_the_same(weights, change) for change in rows))

    def test_the_same_ones_each_time(self):
        rules = list(some_small_rules())
        first = [(all_kept(one), changes(one)) for one in rules]
        for one in rules:
            for told in all_kept(one) + changes(one):
                told.clear()
        again = [(all_kept(one), changes(one)) for one in reversed(rules)]
        self.assertEqual(again, list(reversed(first)))

    def test_low_and_the_window_are_not_looked_at(self):
        for low in LOWS:
            self.assertEqual(all_kept((4, low, track_rule(2, 2, 0)[2])), all_kept(track_rule(2, 2, 0)))
            self.assertEqual(len(changes((4, low, track_rule(2, 2, 0)[2]))), 1)
        self.assertEqual(all_kept(widened(ELEMENTARY[184], -4, 3)), [[1, 0], [0, 1]])


if __name__ == "__main__":
    unittest.main()
