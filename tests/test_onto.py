"""The paper of a small rule's reach, onto and the lost stretch (points 3, 19 and 22)."""

import unittest

from helper import ALL_SIGNS, LARGE_WINDOWS, LOWS, Refusals
from helper import all_nodes, frame_by_hand, large_rule, mixed_word, next_set, places_by, rule_of, rules_of_every_kind
from helper import some_rules, stretch_led, sum_rule, tables_in_order, ways_by_hand, words_in_order
from rowrules.before import before_at, many_before
from rowrules.errors import TooWide
from rowrules.forms import widened
from rowrules.joins import joined
from rowrules.onto import lost, onto, reach_paper
from rowrules.rules import by_number

ELEMENTARY = [by_number(2, -1, 3, number) for number in range(256)]
ELEMENTARY_ONTO = [
    15, 30, 45, 51, 60, 75, 85, 86, 89, 90, 101, 102, 105, 106, 120, 135, 149, 150, 153, 154, 165, 166, 169, 170, 180,
    195, 204, 210, 225, 240,
]


# Walked from the set itself, stretches in the order of lists and the shorter ones first.
def shortest_to_nought(nexts, some):
    stretches = {some: []}
    found = [some]
    while found and 0 not in stretches:
        further = []
        for here in found:
            for sign, come in enumerate(nexts[here]):
                if come not in stretches:
                    stretches[come] = stretches[here] + [sign]
                    further.append(come)
        found = further
    return stretches.get(0)


def nexts_by_hand(one):
    ways = ways_by_hand(one)
    start = all_nodes(ways)
    nexts = {}
    waiting = [start]
    while waiting:
        some = waiting.pop(0)
        if some not in nexts:
            nexts[some] = [next_set(ways, some, sign) for sign in range(one[0])]
            waiting += nexts[some]
    return start, nexts


def paper_by_hand(one):
    start, nexts = nexts_by_hand(one)
    rows = []
    for some in sorted(nexts)[::-1]:
        stretch = shortest_to_nought(nexts, some)
        rows.append((some, nexts[some], None if stretch is None else len(stretch)))
    return rows


def lost_by_hand(one):
    start, nexts = nexts_by_hand(one)
    return shortest_to_nought(nexts, start)


def stretches_to_nothing(one, longest):
    """All stretches of at most so many signs to which nothing leads, the shorter ones first."""
    framed = frame_by_hand(one)
    for length in range(longest + 1):
        come = {tuple(stretch_led(framed, word)) for word in words_in_order(one[0], length + places_by(framed) - 1)}
        yield from (row for row in words_in_order(one[0], length) if tuple(row) not in come)


class TestReachPaper(Refusals):
    def test_by_hand(self):
        self.assertEqual(reach_paper((2, 0, (0, 1))), [(3, [3, 3], None)])
        self.assertEqual(reach_paper((2, 9, (1, 1))), [(3, [0, 3], 1), (0, [0, 0], 0)])
        # 1 is told for 11 alone: what would lead to 101 is 1111, which is told 1 in the middle, too.
        self.assertEqual(reach_paper((2, 0, (0, 0, 0, 1))), [
            (3, [3, 2], 3), (2, [1, 2], 2), (1, [3, 0], 1), (0, [0, 0], 0),
        ])

    def test_against_the_paper_walked_by_hand(self):
        for one in rules_of_every_kind():
            self.assertEqual(reach_paper(one), paper_by_hand(one))

    def test_all_elementary_rules(self):
        for one in ELEMENTARY:
            self.assertEqual(reach_paper(one), paper_by_hand(one))

    def test_the_form_of_it(self):
        for one in rules_of_every_kind():
            paper = reach_paper(one)
            sets = [row[0] for row in paper]
            self.assertEqual(sets, sorted(set(sets))[::-1])
            self.assertIs(type(paper), list)
            for row in paper:
                self.assertEqual([type(row), len(row), type(row[1]), len(row[1])], [tuple, 3, list, one[0]])
                self.assertTrue(set(row[1]) <= set(sets))
                self.assertEqual(row[2] == 0, row[0] == 0)

    def test_low_and_the_window_are_not_looked_at(self):
        for low in LOWS:
            self.assertEqual(reach_paper((2, low, ELEMENTARY[110][2])), reach_paper(ELEMENTARY[110]))
            self.assertEqual(lost((2, low, ELEMENTARY[110][2])), lost(ELEMENTARY[110]))
        self.assertEqual(reach_paper(widened(ELEMENTARY[110], -4, 3)), reach_paper(ELEMENTARY[110]))

    def test_rules_that_are_not_small(self):
        for signs, many in LARGE_WINDOWS:
            for call in (reach_paper, onto, lost):
                self.refused(TooWide, call, large_rule(signs, many, -1))
                self.refused(TooWide, call, sum_rule(signs, 0, many, [0, many - 1]))

    def test_the_lists_are_the_askers_own(self):
        for one in (ELEMENTARY[110], (2, 0, (0, 0, 0, 1)), (2, 0, (0, 1))):
            early = reach_paper(one)
            paper = reach_paper(one)
            for row in paper:
                row[1].append(7)
                row[1][0] = -1
            paper.clear()
            self.assertEqual(early, paper_by_hand(one))
            self.assertEqual(reach_paper(one), paper_by_hand(one))


class TestOnto(unittest.TestCase):
    def test_elementary_rules(self):
        self.assertEqual([number for number, one in enumerate(ELEMENTARY) if onto(one)], ELEMENTARY_ONTO)

    def test_just_where_the_first_rows_left_is_none(self):
        for one in rules_of_every_kind():
            self.assertIs(onto(one), paper_by_hand(one)[0][2] is None)

    def test_kinds_that_are_known(self):
        for signs in ALL_SIGNS:
            for low in LOWS:
                self.assertIs(onto((signs, low, tuple(range(signs)))), True)
                self.assertIs(onto((signs, low, (0,) * signs)), False)
                self.assertIs(onto(sum_rule(signs, low, 2, [0, 1])), True)
                self.assertIs(onto(rule_of(signs, low, 2, max)), False)

    def test_as_many_lead_to_each_stretch(self):
        for one in [ELEMENTARY[number] for number in (30, 90, 105, 170, 154)] + [sum_rule(3, 0, 3, [0, 1, 2])]:
            framed = frame_by_hand(one)
            for length in range(5):
                for row in words_in_order(one[0], length):
                    self.assertEqual(many_before(framed, row), one[0] ** (places_by(framed) - 1))
            row = mixed_word(one[0], 300)
            self.assertEqual(stretch_led(framed, before_at(framed, row, 1)), row)

    def test_of_two_rules_the_whole_is_onto_just_where_both_are(self):
        rules = [(2, 0, table) for table in tables_in_order(2, 2)]
        for one in rules:
            for other in rules:
                self.assertIs(onto(joined(one, other)), onto(one) and onto(other))


class TestLost(unittest.TestCase):
    def test_against_the_stretch_walked_by_hand(self):
        for one in rules_of_every_kind():
            self.assertEqual(lost(one), lost_by_hand(one))

    def test_all_elementary_rules(self):
        for number, one in enumerate(ELEMENTARY):
            self.assertEqual(lost(one), lost_by_hand(one))
            self.assertEqual(lost(one) is None, number in ELEMENTARY_ONTO)

    def test_against_all_stretches(self):
        for one in ELEMENTARY[::7] + some_rules(3, 2, 0, 8) + some_rules(4, 2, 0, 3) + some_rules(2, 4, 0, 8):
            longest = {2: 7, 3: 4, 4: 3}[one[0]]
            first = next(stretches_to_nothing(one, longest), None)
            if first is not None:
                self.assertEqual(lost(one), first)
            else:
                self.assertTrue(lost(one) is None or len(lost(one)) > longest)

    def test_its_length_is_left_of_the_first_row_and_nothing_leads_to_it(self):
        for one in rules_of_every_kind():
            stretch = lost(one)
            if stretch is not None:
                self.assertIs(type(stretch), list)
                self.assertEqual(len(stretch), reach_paper(one)[0][2])
                self.assertEqual(many_before(frame_by_hand(one), stretch), 0)

    def test_by_hand(self):
        self.assertEqual(lost((2, 0, (0, 0, 0, 1))), [1, 0, 1])
        self.assertEqual(lost(ELEMENTARY[110]), [0, 1, 0, 1, 0])
        for signs in ALL_SIGNS:
            self.assertEqual(lost((signs, 4, (0,) * signs)), [1])
            self.assertEqual(lost((signs, 4, (1,) * signs)), [0])
            self.assertIsNone(lost((signs, 4, tuple(range(signs)))))

    def test_the_answer_is_the_askers_own(self):
        lost(ELEMENTARY[110]).append(1)
        self.assertEqual(lost(ELEMENTARY[110]), [0, 1, 0, 1, 0])


if __name__ == "__main__":
    unittest.main()
