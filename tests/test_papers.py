"""The seven papers, what each tells and when each holds; a paper for a question (points 32 and 33)."""

import copy
import unittest

from helper import ALL_SIGNS, FOUR_PLACES, LARGE_WINDOWS, LOWS, Refusals
from helper import all_nodes, chain_rule, frame_by_hand, large_rule, mark_rule, one_to_one_rules, places_by, renaming
from helper import ring_led, rule_of, rules_of_every_kind, shift, stretch_led, sum_rule, track_rule, ways_by_hand
from helper import words_in_order
from rowrules.back import way_back
from rowrules.errors import NoWeights, TooWide
from rowrules.forms import widened
from rowrules.joins import joined, moved, turned
from rowrules.onto import lost, onto, reach_paper
from rowrules.pairs import one_to_one, ranks, twins
from rowrules.papers import BackPaper, ChangePaper, KeepingPaper, LostPaper, OntoPaper, Paper, RankPaper, TwinPaper
from rowrules.papers import paper_for
from rowrules.rules import by_number
from rowrules.weights import changed, flows, kept

ELEMENTARY = [by_number(2, -1, 3, number) for number in range(256)]
SUM = (2, 0, (0, 1, 1, 0))
BOTH_ONE = (2, 0, (0, 0, 0, 1))
STILL = (2, 0, (0, 1))
MADE = [
    (OntoPaper, ([3, 1, 2],)),
    (OntoPaper, ([],)),
    (LostPaper, ([0, 1, 1],)),
    (LostPaper, ([],)),
    (RankPaper, (0, [(0, 1, 1), (1, 0, 1)])),
    (RankPaper, (-5, [])),
    (BackPaper, ((2, 0, (0, 1)),)),
    (TwinPaper, ([0, 1], [1, 1])),
    (TwinPaper, ([], [1])),
    (KeepingPaper, ([0, 1], [0, 0, 0, -1])),
    (KeepingPaper, ([], [])),
    (ChangePaper, ([0, 1], [1, 1])),
    (ChangePaper, ([5], [])),
]


def onto_of(one):
    return [row[0] for row in reach_paper(one)]


class Held(Refusals):
    def held(self, paper, one):
        self.assertIs(paper.holds(one), True)

    def not_held(self, paper, one):
        with self.subTest((paper.__class__.__name__, paper.told(), one)):
            self.assertIs(paper.holds(one), False)


class TestPaper(Held):
    def test_a_paper_alone(self):
        self.assertEqual(Paper().told(), ())
        self.assertIs(type(Paper().told()), tuple)
        for one in list(rules_of_every_kind())[::5] + [large_rule(2, 8), large_rule(9, 2)]:
            self.not_held(Paper(), one)

    def test_each_stands_straight_under_paper(self):
        for kind in (OntoPaper, LostPaper, RankPaper, BackPaper, TwinPaper, KeepingPaper, ChangePaper):
            self.assertEqual(kind.__bases__, (Paper,))

    def test_what_it_was_made_of_is_told_in_its_order(self):
        for kind, made in MADE:
            told = kind(*copy.deepcopy(made)).told()
            self.assertEqual(told, made)
            self.assertIs(type(told), tuple)
            self.assertEqual([type(part) for part in told], [type(part) for part in made])

    def test_what_is_done_to_a_list_later_changes_nothing(self):
        for kind, made in MADE:
            handed = copy.deepcopy(made)
            paper = kind(*handed)
            early = paper.told()
            for told in (handed, paper.told(), paper.told()):
                for part in told:
                    if isinstance(part, list):
                        part.append(7)
                        part.reverse()
            self.assertEqual((early, paper.told()), (made, made))

    def test_it_holds_still_when_a_list_is_changed(self):
        sets, row, weights, ring = [3], [1, 0, 1], [0, 1], [0, 1, 1]
        held = [OntoPaper(sets), LostPaper(row), ChangePaper(weights, ring)]
        rules = [SUM, BOTH_ONE, ELEMENTARY[30]]
        for changed_later in (sets, row, weights, ring):
            changed_later.clear()
        for paper, one in zip(held, rules):
            self.held(paper, one)
            for part in paper.told():
                part.clear()
            self.held(paper, one)

    def test_to_be_asked_changes_nothing(self):
        for kind, made in MADE:
            paper = kind(*copy.deepcopy(made))
            first = [paper.holds(one) for one in (SUM, STILL, BOTH_ONE, shift(3, 0))]
            self.assertEqual(paper.told(), made)
            self.assertEqual([paper.holds(one) for one in (SUM, STILL, BOTH_ONE, shift(3, 0))], first)

    def test_the_arguments_by_their_names(self):
        self.assertEqual(OntoPaper(sets=[1]).told(), ([1],))
        self.assertEqual(LostPaper(row=[1]).told(), ([1],))
        self.assertEqual(RankPaper(rows=[], even=3).told(), (3, []))
        self.assertEqual(BackPaper(other=STILL).told(), (STILL,))
        self.assertEqual(TwinPaper(other=[0], row=[1]).told(), ([1], [0]))
        self.assertEqual(KeepingPaper(flows=[0], weights=[1]).told(), ([1], [0]))
        self.assertEqual(ChangePaper(ring=[0], weights=[1]).told(), ([1], [0]))

    def test_rules_that_are_not_small(self):
        for signs, many in LARGE_WINDOWS:
            for kind, made in MADE:
                self.refused(TooWide, kind(*copy.deepcopy(made)).holds, large_rule(signs, many, -1))

    def test_a_rule_that_is_told_by_a_wide_window(self):
        wide = widened(shift(2, 1), -3, 4)
        self.held(OntoPaper([3]), wide)
        self.held(RankPaper(0, [(0, 1, 1), (1, 0, 1)]), wide)
        self.held(BackPaper(shift(2, -1)), wide)
        self.held(KeepingPaper([0, 1], [0, 0]), wide)
        self.held(LostPaper([0]), (2, 0, (1,) * 256))
        self.held(TwinPaper([0], [1]), (2, 0, (1,) * 256))
        self.held(ChangePaper([0, 1], [0]), (2, 0, (1,) * 256))


class TestOntoPaper(Held):
    def test_it_holds(self):
        for one in rules_of_every_kind():
            if onto(one):
                sets = onto_of(one)
                for told in (sets, sets[::-1], sorted(sets), sets + sets[:1], sets * 2):
                    self.held(OntoPaper(told), one)
            else:
                self.not_held(OntoPaper(onto_of(one)), one)
                self.not_held(OntoPaper([some for some in onto_of(one) if some != 0]), one)

    def test_more_sets_than_one_comes_to(self):
        for one in [ELEMENTARY[number] for number in (30, 90, 154, 204)] + [sum_rule(3, 0, 2, [0, 1])]:
            more = [some for some in range(1, all_nodes(ways_by_hand(one)) + 1)]
            self.assertIs(OntoPaper(more).holds(one), all(
                any(some >> u & 1 and told == sign for u, v, told in ways_by_hand(one))
                for some in more for sign in range(one[0])
            ))

    def test_each_set_left_out(self):
        for one in [ELEMENTARY[number] for number in (30, 45, 154, 166, 180)] + some_onto_rules():
            sets = onto_of(one)
            for at in range(len(sets)):
                self.not_held(OntoPaper(sets[:at] + sets[at + 1:]), one)

    def test_a_set_too_great_below_nought_or_nought(self):
        for one in (SUM, ELEMENTARY[30], STILL, sum_rule(9, 0, 2, [0, 1])):
            whole = all_nodes(ways_by_hand(one))
            for wrong in (0, -1, -whole, whole + 1, 2 * whole + 1, 2 ** 300, -(10 ** 299)):
                self.not_held(OntoPaper(onto_of(one) + [wrong]), one)
                self.not_held(OntoPaper([wrong] + onto_of(one)), one)
                self.not_held(OntoPaper([wrong]), one)

    def test_all_nodes_left_out(self):
        # From one node alone one steps to one node alone.
        one = sum_rule(2, 0, 2, [0, 1])
        self.held(OntoPaper([3]), one)
        self.held(OntoPaper([3, 1, 2]), one)
        self.not_held(OntoPaper([1, 2]), one)
        self.not_held(OntoPaper([]), one)

    def test_the_sets_of_another_rule(self):
        self.not_held(OntoPaper([3]), shift(3, 0))
        self.not_held(OntoPaper([7]), shift(2, 0))
        self.not_held(OntoPaper([3]), BOTH_ONE)


def some_onto_rules():
    """Rules whose paper has several sets."""
    rules = [rule_of(3, 0, 3, lambda word: (word[0] + (1 if word[1] > word[2] else 0)) % 3), mark_rule(4, 0)]
    return [one for one in rules + [chain_rule(6, 0, 3), turned(track_rule(2, 3, 0))] if len(onto_of(one)) > 1]


class TestLostPaper(Held):
    def test_it_holds(self):
        for one in rules_of_every_kind():
            stretch = lost(one)
            if stretch is not None:
                self.held(LostPaper(stretch), one)
                self.held(LostPaper([0] + stretch), one)
                self.held(LostPaper(stretch + [1, 0]), one)
                self.not_held(LostPaper(stretch[:-1]), one)
                self.not_held(LostPaper(stretch[1:]), one)
                self.not_held(LostPaper([]), one)

    def test_against_all_short_words(self):
        for one in (BOTH_ONE, ELEMENTARY[110], ELEMENTARY[90]):
            framed = frame_by_hand(one)
            for length in range(6):
                come = {tuple(stretch_led(framed, word)) for word in words_in_order(2, length + places_by(framed) - 1)}
                for row in words_in_order(2, length):
                    self.assertIs(LostPaper(row).holds(one), tuple(row) not in come)

    def test_long_words(self):
        self.held(LostPaper([0] * 298 + [1, 0, 1] + [0] * 298), BOTH_ONE)
        self.not_held(LostPaper([0] * 400), BOTH_ONE)
        self.not_held(LostPaper([0, 1] * 200), STILL)

    def test_other_signs(self):
        for wrong in (2, 3, -1, 9, 10 ** 299, -(10 ** 299)):
            for row in ([wrong], [1, 0, 1, wrong], [wrong, 1, 0, 1], [1, wrong, 0, 1]):
                self.not_held(LostPaper(row), BOTH_ONE)
        self.held(LostPaper([2]), (3, 0, (1, 1, 0)))
        self.not_held(LostPaper([2]), (2, 0, (1, 1)))

    def test_by_the_frame_not_by_the_window(self):
        self.held(LostPaper([1, 0, 1]), widened(BOTH_ONE, -4, 3))
        self.held(LostPaper([1, 0, 1]), moved(BOTH_ONE, 10 ** 60))


class TestRankPaper(Held):
    def test_it_holds(self):
        for one in one_to_one_rules():
            even, rows = ranks(one)
            self.held(RankPaper(even, rows), one)
            self.held(RankPaper(even, rows[::-1]), one)
            self.held(RankPaper(even - 5, [(u, v, rank - 5) for u, v, rank in rows]), one)
            self.held(RankPaper(3 * even, [(u, v, 3 * rank) for u, v, rank in rows]), one)

    def test_great_ranks(self):
        even, rows = ranks(mark_rule(3, 0))
        self.held(RankPaper(even * 10 ** 298, [(u, v, rank * 10 ** 298) for u, v, rank in rows]), mark_rule(3, 0))

    def test_a_rank_too_low_or_too_great(self):
        for one in (STILL, mark_rule(3, 0), track_rule(2, 2, 0), chain_rule(4, 0, 2), by_number(2, 0, 4, FOUR_PLACES[0])):
            even, rows = ranks(one)
            for at, (u, v, rank) in enumerate(rows):
                if rank > 0:
                    self.not_held(RankPaper(even, rows[:at] + [(u, v, rank - 1)] + rows[at + 1:]), one)
            if even > 0:
                self.not_held(RankPaper(even - 1, rows), one)
            for wrong in (-(10 ** 299), 10 ** 299):
                self.assertIs(RankPaper(wrong, rows).holds(one), wrong < 0 and even == 0)
            self.not_held(RankPaper(0, [(u, v, 0) for u, v, rank in rows]), one)

    def test_each_pair_stands_in_just_one(self):
        for one in (STILL, mark_rule(3, 0), track_rule(2, 2, 0)):
            even, rows = ranks(one)
            for at, row in enumerate(rows):
                self.not_held(RankPaper(even, rows[:at] + rows[at + 1:]), one)
                self.not_held(RankPaper(even, rows + [row]), one)
                self.not_held(RankPaper(even, rows + [(row[0], row[1], 10 ** 60)]), one)
                for other in rows[:at]:
                    self.not_held(RankPaper(even, rows[:at] + [other] + rows[at + 1:]), one)
            self.not_held(RankPaper(even, []), one)

    def test_others_stand_in_it(self):
        for one in (STILL, mark_rule(3, 0)):
            even, rows = ranks(one)
            for wrong in ((0, 0), (1, 1), (0, one[0]), (one[0], 0), (-1, 0), (0, -1), (10 ** 299, 1)):
                self.not_held(RankPaper(even, rows + [wrong + (even,)]), one)
                self.not_held(RankPaper(even, rows[:-1] + [wrong + (even,)]), one)

    def test_rules_that_are_not_one_to_one(self):
        for one in rules_of_every_kind():
            if not one_to_one(one):
                many = len({u for u, v, told in ways_by_hand(one)})
                rows = [(u, v, u + v) for u in range(many) for v in range(many) if u != v]
                self.not_held(RankPaper(0, rows), one)
        for one in (SUM, BOTH_ONE, (2, 0, (1, 1))):
            for even in range(4):
                for first in range(4):
                    for second in range(4):
                        self.not_held(RankPaper(even, [(0, 1, first), (1, 0, second)]), one)


class TestBackPaper(Held):
    def test_it_holds(self):
        for one in one_to_one_rules():
            back = way_back(one)
            self.held(BackPaper(back), one)
            for by in (-4, -3, -2, -1, 1, 2, 3, 4, 10 ** 299):
                self.not_held(BackPaper(moved(back, by)), one)
            self.not_held(BackPaper(joined(back, renaming(one[0], 0))), one)

    def test_by_wide_windows(self):
        self.held(BackPaper(widened(shift(2, -1), -4, 3)), widened(shift(2, 1), -3, 4))
        self.held(BackPaper(widened(renaming(3, -1, 2), -3, 1)), renaming(3, 1))
        self.not_held(BackPaper(widened(shift(2, 1), -4, 3)), widened(shift(2, 1), -3, 4))

    def test_a_way_back_that_is_not_small(self):
        for one in (chain_rule(6, 0, 3), turned(chain_rule(6, -4, 3))):
            back = way_back(one)
            self.assertEqual(places_by(back), 3)
            self.refused(TooWide, joined, one, back)
            self.held(BackPaper(back), one)
            self.not_held(BackPaper(moved(back, 1)), one)
            spoiled = list(back[2])
            spoiled[-1] = (spoiled[-1] + 1) % 6
            self.not_held(BackPaper((6, back[1], tuple(spoiled))), one)
        for signs, many in LARGE_WINDOWS:
            self.not_held(BackPaper(large_rule(signs, many)), shift(signs, 0))
            self.not_held(BackPaper(sum_rule(signs, 0, many, range(many))), sum_rule(signs, 0, 2, [0, 1]))

    def test_each_sign_of_the_table_spoiled(self):
        for one in (shift(3, 2), mark_rule(3, 0), track_rule(2, 2, -1), by_number(2, 0, 4, FOUR_PLACES[1])):
            back = way_back(one)
            for at, sign in enumerate(back[2]):
                table = back[2][:at] + ((sign + 1) % one[0],) + back[2][at + 1:]
                self.not_held(BackPaper((one[0], back[1], table)), one)

    def test_other_signs(self):
        for signs in ALL_SIGNS:
            for others in ALL_SIGNS:
                if signs != others:
                    self.not_held(BackPaper(shift(others, 0)), shift(signs, 0))
        self.not_held(BackPaper(large_rule(3, 5)), shift(2, 0))

    def test_rules_that_are_not_one_to_one(self):
        for one in (SUM, BOTH_ONE, (2, 3, (1, 1)), ELEMENTARY[110]):
            for other in (SUM, BOTH_ONE, shift(2, 0), (2, -3, (1, 0)), one):
                self.not_held(BackPaper(other), one)

    def test_a_rule_far_away(self):
        for low in LOWS:
            self.held(BackPaper(renaming(5, -low, 4)), renaming(5, low))
            self.not_held(BackPaper(renaming(5, low + 1, 4)), renaming(5, low))


class TestTwinPaper(Held):
    def test_it_holds(self):
        for one in rules_of_every_kind():
            if not one_to_one(one):
                ring, other = twins(one)
                self.held(TwinPaper(ring, other), one)
                self.held(TwinPaper(other, ring), one)
                self.held(TwinPaper(ring * 2, other * 2), one)
                self.not_held(TwinPaper(ring, ring), one)
                self.not_held(TwinPaper(ring, other * 2), one)
                self.not_held(TwinPaper(ring * 3, other), one)
                self.not_held(TwinPaper([], []), one)
                self.not_held(TwinPaper([], ring), one)
                self.not_held(TwinPaper(ring, []), one)

    def test_against_all_short_rings(self):
        for one in (SUM, BOTH_ONE, ELEMENTARY[30], STILL, moved(ELEMENTARY[110], 2)):
            rings = [ring for length in range(1, 5) for ring in words_in_order(2, length)]
            for ring in rings:
                for other in rings:
                    held = ring != other and ring_led(one, ring) == ring_led(one, other)
                    self.assertIs(TwinPaper(ring, other).holds(one), held)

    def test_other_signs(self):
        one = (2, 0, (1, 1))
        self.held(TwinPaper([0, 1], [1, 1]), one)
        for wrong in (2, -1, 9, 10 ** 299, -2):
            self.not_held(TwinPaper([0, wrong], [1, 1]), one)
            self.not_held(TwinPaper([0, 1], [wrong, 1]), one)
            self.not_held(TwinPaper([wrong, 1], [wrong, 0]), one)

    def test_long_rings(self):
        self.held(TwinPaper([0, 1] * 150, [1, 0] * 150), SUM)
        self.not_held(TwinPaper([0, 1] * 150, [0] + [1, 0] * 149 + [0]), SUM)


class TestKeepingPaper(Held):
    def test_it_holds(self):
        for one in rules_of_every_kind():
            weights = [4] * one[0]
            found = flows(one, weights)
            self.held(KeepingPaper(weights, found), one)
            for more in (1, -7, 10 ** 299):
                self.held(KeepingPaper(weights, [flow + more for flow in found]), one)

    def test_words_of_several_signs(self):
        for weights in ([0, 1], [0, 1, 0, 0], [3, 3, 4, 3], [0, 0, 0, 1, 0, 0, 0, 0], [5] * 64):
            found = flows(ELEMENTARY[170], weights)
            self.held(KeepingPaper(weights, found), ELEMENTARY[170])
            self.not_held(KeepingPaper(weights, found[:-1]), ELEMENTARY[170])
            self.not_held(KeepingPaper(weights, found + found), ELEMENTARY[170])

    def test_each_flow_spoiled(self):
        found = flows(ELEMENTARY[184], [0, 1])
        self.held(KeepingPaper([0, 1], found), ELEMENTARY[184])
        for at in range(4):
            for more in (1, -1, 10 ** 299):
                spoiled = [flow + (more if k == at else 0) for k, flow in enumerate(found)]
                self.not_held(KeepingPaper([0, 1], spoiled), ELEMENTARY[184])

    def test_too_many_or_too_few(self):
        for length in range(20):
            self.assertIs(KeepingPaper([2, 2], [0] * length).holds(ELEMENTARY[30]), length == 4)
            self.assertIs(KeepingPaper([2, 2], [0] * length).holds(STILL), length == 2)
            self.assertIs(KeepingPaper([2] * length, [0] * 8).holds(STILL), length == 8)
            self.assertIs(KeepingPaper([2] * length, [0] * 9).holds(shift(3, 0)), length == 9)
            self.not_held(KeepingPaper([2] * length, []), STILL)
            self.not_held(KeepingPaper([2] * length, [0]), STILL)
        self.not_held(KeepingPaper([], []), STILL)
        self.not_held(KeepingPaper([1], [0]), STILL)
        self.not_held(KeepingPaper([1], []), STILL)

    def test_weights_that_are_not_kept(self):
        for one in (ELEMENTARY[30], ELEMENTARY[110], BOTH_ONE):
            many = len(frame_by_hand(one)[2]) // 2
            for number in range(3 ** many):
                self.not_held(KeepingPaper([0, 1], [number // 3 ** k % 3 for k in range(many)]), one)

    def test_the_bound(self):
        for one, length in ((shift(2, 0), 256), (shift(9, 0), 81), (sum_rule(3, 0, 3, [0, 1, 2]), 81)):
            many = length * len(frame_by_hand(one)[2]) // one[0] ** 2
            self.held(KeepingPaper([1] * length, [6] * many), one)
            self.not_held(KeepingPaper([1] * length, [6] * (many - 1) + [7]), one)


class TestChangePaper(Held):
    def test_it_holds(self):
        for one in rules_of_every_kind():
            weights = list(range(one[0]))
            ring = changed(one, weights)
            if ring is not None:
                self.held(ChangePaper(weights, ring), one)
                self.held(ChangePaper([10 ** 298 * weight for weight in weights], ring), one)
                self.held(ChangePaper(weights, ring * 2), one)
                self.not_held(ChangePaper([1] * one[0], ring), one)

    def test_against_all_short_rings(self):
        for one in (ELEMENTARY[30], ELEMENTARY[184], moved(ELEMENTARY[110], -3)):
            for weights in ([0, 1], [0, 1, 0, 0], [0, 0, 0, 1], [0, 0, 0, 1, 0, 0, 0, 0]):
                for ring in [ring for length in range(1, 7) for ring in words_in_order(2, length)]:
                    self.assertIs(ChangePaper(weights, ring).holds(one), total_changes(one, weights, ring))

    def test_weights_of_another_length(self):
        for length in range(20):
            weights = [k * k for k in range(length)]
            self.assertIs(ChangePaper(weights, [0, 1, 0, 0]).holds((2, 0, (1, 1))), length in (2, 4, 8, 16))
            self.assertIs(ChangePaper(weights, [0, 1, 0, 0]).holds((3, 0, (1, 1, 1))), length in (3, 9))

    def test_what_is_no_ring(self):
        one = (2, 0, (1, 1))
        self.held(ChangePaper([0, 1], [0]), one)
        for ring in ([], [2], [0, 2], [-1], [0, -1], [10 ** 299], [0, -(10 ** 299)], [0, 9, 0]):
            self.not_held(ChangePaper([0, 1], ring), one)

    def test_more_weights_than_are_asked_for_elsewhere(self):
        self.held(ChangePaper([0] * 511 + [1], [1] * 300), (2, 0, (0, 0)))


def total_changes(one, weights, ring):
    many = len(weights).bit_length() - 1

    def total(word):
        return sum(weights[int("".join(str(word[(i + k) % len(word)]) for k in range(many)), 2)] for i in range(len(word)))

    return total(ring) != total(ring_led(one, ring))


class TestPaperFor(Held):
    def test_onto(self):
        for one in rules_of_every_kind():
            paper = paper_for(one, "onto")
            self.assertIs(type(paper), OntoPaper if onto(one) else LostPaper)
            self.held(paper, one)
            self.assertEqual(paper_for(one, "onto").told(), paper.told())

    def test_one(self):
        for one in list(rules_of_every_kind()) + list(one_to_one_rules()):
            paper = paper_for(one, "one")
            self.assertIs(type(paper), RankPaper if one_to_one(one) else TwinPaper)
            self.held(paper, one)
            self.assertEqual(paper_for(one, "one").told(), paper.told())

    def test_kept(self):
        for one in list(rules_of_every_kind()) + ELEMENTARY[::9]:
            for weights in (list(range(one[0])), [3] * one[0], [k % 5 for k in range(one[0] ** 2)]):
                if one[0] * len(frame_by_hand(one)[2]) <= 729:
                    paper = paper_for(one, "kept", weights)
                    self.assertIs(type(paper), KeepingPaper if kept(one, weights) else ChangePaper)
                    self.held(paper, one)
                    self.assertEqual(paper.told()[0], weights)
        paper = paper_for(ELEMENTARY[184], "kept", weights=[0, 1])
        self.assertEqual(paper.told(), ([0, 1], [0, 0, 0, -1]))

    def test_the_weights_stay_the_askers_own(self):
        weights = [0, 1]
        paper = paper_for(ELEMENTARY[184], "kept", weights)
        weights.append(3)
        paper.told()[0].clear()
        self.assertEqual(paper.told(), ([0, 1], [0, 0, 0, -1]))

    def test_rules_that_are_not_small(self):
        for signs, many in LARGE_WINDOWS:
            one = large_rule(signs, many, -1)
            for question in ("onto", "one", "kept"):
                self.refused(TooWide, paper_for, one, question)
                self.refused(TooWide, paper_for, one, question, [1] * signs)
                self.refused(TooWide, paper_for, one, question, [None])

    def test_no_weights(self):
        for one in (STILL, SUM, ELEMENTARY[110]):
            self.refused(NoWeights, paper_for, one, "kept")
            for weights in (None, [], [1], [1, 2, 3], [1, True], [None, 0], ["1", 0, 0, 0]):
                self.refused(NoWeights, paper_for, one, "kept", weights)

    def test_too_many_words_to_be_weighed(self):
        self.refused(TooWide, paper_for, STILL, "kept", [1] * 512)
        self.refused(NoWeights, paper_for, STILL, "kept", [1] * 511 + [False])
        self.refused(TooWide, paper_for, ELEMENTARY[110], "kept", [1] * 256)
        self.held(paper_for(ELEMENTARY[110], "kept", [1] * 128), ELEMENTARY[110])

    def test_weights_are_not_looked_at_for_the_others(self):
        for weights in (None, [], [1, 2, 3], [True]):
            self.held(paper_for(SUM, "onto", weights), SUM)
            self.held(paper_for(SUM, "one", weights), SUM)


if __name__ == "__main__":
    unittest.main()
