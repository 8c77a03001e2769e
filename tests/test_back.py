"""The way back of a small rule that is one to one (points 3 and 27)."""

import unittest

from helper import ALL_SIGNS, FOUR_PLACES, LARGE_WINDOWS, LOWS, Refusals
from helper import chain_rule, counting_by_hand, frame_by_hand, large_rule, longest_way, mark_rule, mixed_word, next_at
from helper import one_to_one_rules, places_by, renaming, ring_led, rule_of, rules_of_every_kind, shift, some_rules
from helper import steps_by_hand, sum_rule, track_rule, words_in_order
from rowrules.back import way_back
from rowrules.errors import NoWayBack, TooWide
from rowrules.forms import widened
from rowrules.joins import joined, moved, turned
from rowrules.onto import onto
from rowrules.pairs import one_to_one, ranks
from rowrules.rules import by_number, rule

LONGEST = {2: 8, 3: 5, 4: 4, 5: 3, 6: 3, 7: 3, 8: 3, 9: 3}


def leads_every_row_back(one, back):
    """Whether the one and then the other leads each row to itself, by all words that the place 0 depends on."""
    first = min(0, one[1] + back[1])
    last = max(0, one[1] + places_by(one) - 1 + back[1] + places_by(back) - 1)
    for word in words_in_order(one[0], last - first + 1):
        come = {}
        for place in range(back[1], back[1] + places_by(back)):
            come[place] = next_at(one, lambda at: word[at - first], place)
        if next_at(back, lambda at: come[at], 0) != word[-first]:
            return False
    return True


def nexts_by_hand(one):
    ahead = steps_by_hand(one)
    return {pair: [come for come in ahead if pair in ahead[come]] for pair in ahead}


class TestWayBack(Refusals):
    def test_by_hand(self):
        self.assertEqual(way_back((2, 0, (0, 1))), (2, 0, (0, 1)))
        self.assertEqual(way_back((2, 5, (1, 0))), (2, -5, (1, 0)))
        self.assertEqual(way_back((3, -4, (1, 2, 0))), (3, 4, (2, 0, 1)))
        self.assertEqual(way_back(mark_rule(3, 0)), mark_rule(3, 0))
        # The first track stands still, the second one comes back from the left.
        back = rule_of(6, -1, 2, lambda word: word[1] // 3 * 3 + word[0] % 3)
        self.assertEqual(way_back(track_rule(2, 3, 0)), back)
        self.assertEqual(way_back(back), track_rule(2, 3, 0))

    def test_rings_are_led_back(self):
        for one in one_to_one_rules():
            back = way_back(one)
            for length in range(1, LONGEST[one[0]] + 1):
                for ring in words_in_order(one[0], length):
                    if length < 3 or sum(ring) % 3 == 1:
                        self.assertEqual(ring_led(back, ring_led(one, ring)), ring)
                        self.assertEqual(ring_led(one, ring_led(back, ring)), ring)
            ring = mixed_word(one[0], 300)
            self.assertEqual(ring_led(back, ring_led(one, ring)), ring)
            self.assertEqual(ring_led(one, ring_led(back, ring)), ring)

    def test_every_row_is_led_back(self):
        for one in one_to_one_rules():
            if abs(one[1]) < 8:
                self.assertTrue(leads_every_row_back(frame_by_hand(one), way_back(one)))
                self.assertTrue(leads_every_row_back(way_back(one), frame_by_hand(one)))

    def test_it_is_told_by_its_narrowest_window(self):
        for one in one_to_one_rules():
            back = way_back(one)
            found = counting_by_hand(back)
            self.assertEqual((found[0], found[-1]), (back[1], back[1] + places_by(back) - 1))
            self.assertEqual(rule(*back), back)

    def test_how_far_it_reaches(self):
        for one in one_to_one_rules():
            framed, back = frame_by_hand(one), way_back(one)
            self.assertGreaterEqual(back[1], -framed[1] - ranks(one)[0])
            last = -framed[1] - places_by(framed) + 1 + longest_way(nexts_by_hand(one), "even", set(), {})
            self.assertLessEqual(back[1] + places_by(back) - 1, last)

    def test_low_near_far_and_below_nought(self):
        for low in LOWS:
            for one in (shift(2, low), renaming(5, low), mark_rule(4, low), track_rule(2, 2, low), chain_rule(6, low, 3)):
                back = way_back(one)
                self.assertEqual(back, moved(way_back(moved(one, -low)), -low))
                for ring in words_in_order(one[0], 3):
                    self.assertEqual(ring_led(back, ring_led(one, ring)), ring)
                    self.assertEqual(ring_led(one, ring_led(back, ring)), ring)

    def test_no_place_counts_ahead_or_behind(self):
        for signs in ALL_SIGNS:
            for low in LOWS:
                self.assertEqual(way_back(shift(signs, low)), shift(signs, -low))
                self.assertEqual(way_back(renaming(signs, low)), renaming(signs, -low, signs - 1))
        self.assertEqual(way_back(widened(shift(2, 1), -3, 4)), shift(2, -1))
        self.assertEqual(way_back(widened(shift(9, -1), -1, 0)), shift(9, 1))
        self.assertEqual(way_back(widened(shift(9, -1), -2, -1)), shift(9, 1))

    def test_the_way_back_of_the_way_back(self):
        for one in one_to_one_rules():
            if len(frame_by_hand(way_back(one))[2]) <= 9 * one[0]:
                self.assertEqual(way_back(way_back(one)), joined(one, shift(one[0], 0)))

    def test_chains(self):
        self.assertEqual([places_by(way_back(chain_rule(signs, 0, signs // 2))) for signs in (4, 5, 6)], [2, 2, 3])
        self.assertEqual(way_back(chain_rule(6, 0, 3))[1], 0)
        self.assertEqual(way_back(turned(chain_rule(6, 0, 3)))[1], -2)
        self.assertEqual(way_back(turned(chain_rule(6, 0, 3))), turned(way_back(chain_rule(6, 0, 3))))

    def test_too_wide_where_the_way_back_is(self):
        for signs in (7, 8, 9):
            for low in (0, -1, 10 ** 60):
                self.refused(TooWide, way_back, chain_rule(signs, low, 3))
                self.refused(TooWide, way_back, turned(chain_rule(signs, low, 3)))
                self.assertIs(one_to_one(chain_rule(signs, low, 3)), True)
                self.assertEqual(places_by(way_back(chain_rule(signs, low, 2))), 2)
        self.refused(TooWide, way_back, chain_rule(8, 0, 4))

    def test_rules_of_two_signs_and_four_places(self):
        for number in FOUR_PLACES:
            back = way_back(by_number(2, -2, 4, number))
            self.assertEqual(places_by(back), 4)
            self.assertEqual(joined(by_number(2, -2, 4, number), back), shift(2, 0))
            self.assertEqual(joined(back, by_number(2, -2, 4, number)), shift(2, 0))

    def test_rules_that_are_not_one_to_one(self):
        for one in rules_of_every_kind():
            if not one_to_one(one):
                self.refused(NoWayBack, way_back, one)
        for signs in ALL_SIGNS:
            self.assertIs(onto(sum_rule(signs, 0, 2, [0, 1])), True)
            self.refused(NoWayBack, way_back, sum_rule(signs, 0, 2, [0, 1]))
            self.refused(NoWayBack, way_back, (signs, 0, (0,) * signs))
        for one in some_rules(8, 2, 0, 10) + some_rules(9, 2, 0, 10):
            self.refused(NoWayBack, way_back, one)

    def test_rules_that_are_not_small_are_refused_first(self):
        for signs, many in LARGE_WINDOWS:
            self.refused(TooWide, way_back, large_rule(signs, many, -1))
            self.refused(TooWide, way_back, sum_rule(signs, 0, many, [0, many - 1]))
        # It has a way back, which nobody looks for.
        self.refused(TooWide, way_back, joined(by_number(2, 0, 4, FOUR_PLACES[0]), by_number(2, 0, 4, FOUR_PLACES[2])))


if __name__ == "__main__":
    unittest.main()
