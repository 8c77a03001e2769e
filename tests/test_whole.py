"""The promise over the whole program: what is told of one rule fits together, also for two rules joined (point 3)."""

import random
import unittest

from helper import ALL_SIGNS, SMALL_WINDOWS
from helper import chain_rule, frame_by_hand, mark_rule, one_to_one_rules, renaming, ring_led, rules_of_every_kind, shift
from helper import some_rules, stretch_led, sum_rule, track_rule, words_in_order
from rowrules.back import way_back
from rowrules.basis import all_kept, changes
from rowrules.before import all_before, before_at, many_before
from rowrules.book import Book
from rowrules.errors import NoWayBack, TooWide
from rowrules.joins import joined
from rowrules.onto import lost, onto
from rowrules.pairs import one_to_one, twins
from rowrules.papers import BackPaper, KeepingPaper, LostPaper, OntoPaper, RankPaper, TwinPaper, paper_for
from rowrules.reaches import reaches
from rowrules.rules import by_number
from rowrules.texts import read_rule, show_rule
from rowrules.weights import changed, flows, kept, total

LONGEST = {2: 5, 3: 3, 4: 3}


def rules_one_after_another():
    yield from rules_of_every_kind()
    yield from list(one_to_one_rules())[::2]
    for number in range(0, 256, 5):
        yield by_number(2, -1, 3, number)
    for signs in range(3, 10):
        yield sum_rule(signs, 0, 2, [0, 1])


def short_stretches(one):
    for length in range(LONGEST.get(one[0], 2) + 1):
        yield from words_in_order(one[0], length)


def pairs_to_join():
    for signs in ALL_SIGNS:
        rules = some_rules(signs, 2, 1, 2) + [sum_rule(signs, 0, 2, [0, 1])]
        if signs > 2:
            rules += [mark_rule(signs, -1)]
        if signs in (4, 6, 8, 9):
            rules += [track_rule({4: 2, 6: 2, 8: 2, 9: 3}[signs], {4: 2, 6: 3, 8: 4, 9: 3}[signs], 0, 4)]
        names = [renaming(signs, 2), shift(signs, -1), (signs, 0, (1,) * signs)] + some_rules(signs, 1, 0, 2)
        for one in rules + names:
            for other in names:
                yield one, other
                yield other, one
    small = [one for one in some_rules(2, 2, 0, 6)] + [sum_rule(2, 0, 2, [0, 1]), shift(2, 3)]
    for one in small:
        for other in small + some_rules(2, 3, -1, 3):
            yield one, other


class TestOneRule(unittest.TestCase):
    def test_onto_and_what_leads_to_a_stretch(self):
        for one in rules_one_after_another():
            framed = frame_by_hand(one)
            heads = len(framed[2]) // one[0]
            counts = [many_before(framed, row) for row in short_stretches(one)]
            if onto(one):
                self.assertIsNone(lost(one))
                self.assertEqual(set(counts), {heads})
            else:
                stretch = lost(one)
                self.assertEqual(many_before(framed, stretch), 0)
                self.assertEqual(all_before(framed, stretch), [])
                shorter = [row for row in short_stretches(one) if len(row) < len(stretch)]
                self.assertNotIn(0, [many_before(framed, row) for row in shorter])

    def test_a_stretch_is_led_back(self):
        source = random.Random(4)
        for one in rules_one_after_another():
            if onto(one):
                framed = frame_by_hand(one)
                row = [source.randrange(one[0]) for k in range(60)]
                for number in (0, len(framed[2]) // one[0] - 1):
                    self.assertEqual(stretch_led(framed, before_at(framed, row, number)), row)

    def test_counts_add_up_behind_and_ahead(self):
        for signs, many in SMALL_WINDOWS:
            for one in some_rules(signs, many, 2, 2):
                for row in short_stretches(one):
                    count = signs * many_before(one, row)
                    self.assertEqual(sum(many_before(one, row + [sign]) for sign in range(signs)), count)
                    self.assertEqual(sum(many_before(one, [sign] + row) for sign in range(signs)), count)

    def test_one_to_one_and_the_way_back(self):
        for one in rules_one_after_another():
            if one_to_one(one):
                self.assertIs(onto(one), True)
                self.assertIsNone(twins(one))
                back = way_back(one)
                self.assertIs(BackPaper(back).holds(one), True)
                for ring in ([0, 1, 1, 0, 1], [1], [one[0] - 1, 0]):
                    self.assertEqual(ring_led(back, ring_led(one, ring)), ring)
                    self.assertEqual(ring_led(one, ring_led(back, ring)), ring)
            else:
                ring, other = twins(one)
                self.assertNotEqual(ring, other)
                self.assertEqual((len(ring), ring_led(one, ring)), (len(other), ring_led(one, other)))
                self.assertRaises(NoWayBack, way_back, one)

    def test_what_is_kept(self):
        source = random.Random(9)
        for one in rules_one_after_another():
            told = all_kept(one)
            for weights in told + [[source.randrange(-3, 4) for sign in range(one[0])] for k in range(3)]:
                ring = changed(one, weights)
                self.assertEqual(kept(one, weights), ring is None)
                self.assertEqual(flows(one, weights) is None, ring is not None)
                if ring is None:
                    for some in ([0, 1, 1, 0, 1], [1], [one[0] - 1, 0, 0]):
                        self.assertEqual(total(one[0], weights, some), total(one[0], weights, ring_led(one, some)))
                else:
                    self.assertNotIn(weights, told)
                    self.assertNotEqual(total(one[0], weights, ring), total(one[0], weights, ring_led(one, ring)))
                same_total = [
                    total(one[0], weights, some) == total(one[0], weights, ring_led(one, some)) for some in changes(one)
                ]
                self.assertEqual(kept(one, weights), all(same_total))

    def test_the_papers(self):
        for one in rules_one_after_another():
            self.assertIs(type(paper_for(one, "onto")), OntoPaper if onto(one) else LostPaper)
            self.assertIs(type(paper_for(one, "one")), RankPaper if one_to_one(one) else TwinPaper)
            self.assertTrue(paper_for(one, "onto").holds(one) and paper_for(one, "one").holds(one))
            for weights in all_kept(one):
                paper = paper_for(one, "kept", weights)
                self.assertIs(type(paper), KeepingPaper)
                self.assertTrue(paper.holds(one))

    def test_the_rows_that_are_reached(self):
        for one in rules_one_after_another():
            self.assertEqual(reaches(one, shift(one[0], 0)), lost(one))

    def test_the_book_tells_the_same(self):
        for one in rules_one_after_another():
            if abs(one[1]) < 10 ** 60:
                book = Book()
                book.say("rule a " + show_rule(one))
                self.assertEqual(book.say("onto a") == "yes", onto(one))
                self.assertEqual(book.say("one a") == "yes", one_to_one(one))
                if one_to_one(one):
                    book.say("back b a")
                    self.assertEqual(read_rule(book.say("show b")), way_back(one))


class TestTwoRules(unittest.TestCase):
    def test_the_whole_is_onto_where_both_are_and_one_to_one_where_both_are(self):
        known = {}
        for pair in pairs_to_join():
            for one in pair + (joined(*pair),):
                if one not in known:
                    known[one] = (onto(one), one_to_one(one))
        met = [set(), set()]
        for one, other in pairs_to_join():
            for at in (0, 1):
                met[at].add((known[one][at], known[other][at]))
                self.assertIs(known[joined(one, other)][at], known[one][at] and known[other][at])
        self.assertEqual([len(both) for both in met], [4, 4])

    def test_the_way_back_of_the_whole(self):
        for one, other in pairs_to_join():
            if one[0] < 8 and one_to_one(one) and one_to_one(other):
                self.assertEqual(way_back(joined(one, other)), joined(way_back(other), way_back(one)))

    def test_the_whole_reaches_no_more_than_the_second(self):
        for one, other in pairs_to_join():
            self.assertIsNone(reaches(other, joined(one, other)))

    def test_what_both_keep_the_whole_keeps(self):
        for one, other in pairs_to_join():
            for weights in all_kept(one):
                if kept(other, weights):
                    self.assertIs(kept(joined(one, other), weights), True)

    def test_a_way_back_that_is_too_wide(self):
        for signs in (7, 8, 9):
            one = chain_rule(signs, 0, 3)
            self.assertIs(one_to_one(one), True)
            self.assertIs(paper_for(one, "one").holds(one), True)
            self.assertRaises(TooWide, way_back, one)


if __name__ == "__main__":
    unittest.main()
