"""What the tests share: rules and words to ask about, and what DOC.md says of them, reckoned the slow and plain way."""

import itertools
import random
import unittest

from rowrules.errors import NoRow, RowError

ALL_SIGNS = range(2, 10)
MOST_PLACES = {2: 8, 3: 5, 4: 4, 5: 3, 6: 3, 7: 2, 8: 2, 9: 2}
WINDOWS = [(signs, many) for signs in ALL_SIGNS for many in range(1, MOST_PLACES[signs] + 1)]
SMALL_WINDOWS = [(signs, many) for signs, many in WINDOWS if many == 1 or signs ** (many - 1) <= 9]
LARGE_WINDOWS = [window for window in WINDOWS if window not in SMALL_WINDOWS]
LOWS = [0, 1, -1, 7, -300, 10 ** 60 + 7, -(10 ** 60) - 3, 10 ** 299, -(10 ** 299)]
# The numbers of all rules of two signs and four places, both ends of which count, that are one to one.
FOUR_PLACES = [3915, 11535, 13155, 14643, 50892, 52380, 54000, 61620]
NO_SIGNS = [True, False, None, "", "1", [], [0], (0,), {}, 1.0, 0.0, -1, -(10 ** 299), 10 ** 299]


def mixed_table(signs, length):
    return [(k * k + 5 * k // 3 + 1) % signs for k in range(length)]


def mixed_rule(signs, many, low=0):
    return (signs, low, tuple(mixed_table(signs, signs ** many)))


# Every place of its window counts.
def large_rule(signs, many, low=0):
    return (signs, low, (1,) + (0,) * (signs ** many - 1))


def mixed_word(signs, many):
    return [(k * k + 3 * k // 2 + 1) % signs for k in range(many)]


def some_rules(signs, many, low=0, how_many=3):
    """Rules of any table, the same ones each time."""
    source = random.Random(1000 * signs + many)
    return [
        (signs, low, tuple(source.randrange(signs) for k in range(signs ** many))) for k in range(how_many)
    ]


def rule_of(signs, low, many, tell):
    """The rule that tells tell(word) for each word."""
    return (signs, low, tuple(tell(word) for word in words_in_order(signs, many)))


def words_in_order(signs, many):
    return [list(word) for word in itertools.product(range(signs), repeat=many)]


def places_by(one):
    return next(many for many in range(1, 9) if one[0] ** many == len(one[2]))


def told_by(one, word):
    return one[2][sum(sign * one[0] ** k for k, sign in enumerate(reversed(word)))]


def next_at(one, sign_at, place):
    """The next sign at a place of the endless row that has sign_at(i) at the place i."""
    return told_by(one, [sign_at(place + one[1] + k) for k in range(places_by(one))])


def stretch_led(one, row):
    many = places_by(one)
    return [told_by(one, row[k:k + many]) for k in range(len(row) - many + 1)]


def ring_led(one, ring):
    return [next_at(one, lambda place: ring[place % len(ring)], i) for i in range(len(ring))]


def counts_by_hand(one, at):
    for word in words_in_order(one[0], places_by(one)):
        for sign in range(one[0]):
            if told_by(one, word) != told_by(one, word[:at] + [sign] + word[at + 1:]):
                return True
    return False


def counting_by_hand(one):
    return [one[1] + at for at in range(places_by(one)) if counts_by_hand(one, at)]


def frame_by_hand(one):
    """The rule by its narrowest window, or by that of two places, looked at with noughts all about the window."""
    found = counting_by_hand(one) or [0]
    first, last = found[0], max(found[-1], found[0] + 1)

    def tell(word):
        return next_at(one, lambda place: word[place - first] if first <= place <= last else 0, 0)

    return rule_of(one[0], first, last - first + 1, tell)


# The sum of the signs at some places of the window: just these count.
def sum_rule(signs, low, many, chosen):
    return rule_of(signs, low, many, lambda word: sum(word[at] for at in chosen) % signs)


def tables_in_order(signs, many):
    return [tuple(table) for table in itertools.product(range(signs), repeat=signs ** many)]


def number_by_hand(word, signs):
    return sum(sign * signs ** k for k, sign in enumerate(reversed(word)))


def ways_by_hand(one):
    """The frame's words as (first signs, last signs, sign told), by their numbers."""
    framed = frame_by_hand(one)
    return [
        (number_by_hand(word[:-1], one[0]), number_by_hand(word[1:], one[0]), told_by(framed, word))
        for word in words_in_order(one[0], places_by(framed))
    ]


def next_set(ways, some, sign):
    return sum(2 ** end for end in {v for u, v, told in ways if some >> u & 1 and told == sign})


def all_nodes(ways):
    return 2 ** (max(u for u, v, told in ways) + 1) - 1


def steps_by_hand(one):
    """For each pair of unlike nodes, and for "even", those that step to it."""
    ways = ways_by_hand(one)
    nodes = sorted({u for u, v, told in ways})
    ahead = {(u, v): set() for u in nodes for v in nodes if u != v}
    ahead["even"] = set()
    for u, end, told in ways:
        for v, other, like in ways:
            begin = "even" if u == v else (u, v)
            come = "even" if end == other else (end, other)
            if told == like and not begin == come == "even":
                ahead[come].add(begin)
    return ahead


# The longest way that ends at the pair, told all pairs that were walked to come here; None where one comes back.
def longest_way(ahead, pair, walked, found):
    if pair in walked:
        return None
    if pair not in found:
        lengths = [longest_way(ahead, other, walked | {pair}, found) for other in ahead[pair]]
        found[pair] = None if None in lengths else max([0] + [length + 1 for length in lengths])
    return found[pair]


def shift(signs, low):
    return (signs, low, tuple(range(signs)))


def renaming(signs, low, by=1):
    return (signs, low, tuple((sign + by) % signs for sign in range(signs)))


# Signs of two tracks, a * height + b; the second track is moved by one place. The signs may be renamed ahead of it and
# behind it.
def track_rule(width, height, low, mixed=None):
    names = list(range(width * height))
    behind = list(names)
    if mixed is not None:
        random.Random(mixed).shuffle(names)
        random.Random(mixed + 1).shuffle(behind)

    def tell(word):
        return behind[names[word[0]] // height * height + names[word[1]] % height]

    return rule_of(width * height, low, 2, tell)


# The last sign is a mark that stays, and ahead of a mark the signs 0 and 1 are changed for one another.
def mark_rule(signs, low):
    return rule_of(signs, low, 2, lambda word: 1 - word[0] if word[1] == signs - 1 and word[0] < 2 else word[0])


# The first signs make pairs (0, 1), (2, 3) and so on. Ahead of the last sign of a pair the signs of the pair before it
# are changed for one another. So the way back has as many places as there are pairs.
def chain_rule(signs, low, pairs):
    def tell(word):
        changes = word[1] % 2 == 1 and word[1] < 2 * pairs and word[0] // 2 == word[1] // 2 - 1
        return word[0] ^ 1 if changes else word[0]

    return rule_of(signs, low, 2, tell)


def one_to_one_rules():
    """Rules of every kind that are one to one, and whose way back isn't too wide."""
    for signs in ALL_SIGNS:
        for low in (0, 1, -1, 7, -300, 10 ** 60):
            yield shift(signs, low)
            yield renaming(signs, low)
        yield (signs, -2, tuple(reversed(range(signs))))
        if signs > 2:
            yield mark_rule(signs, -1)
    for width, height in ((2, 2), (2, 3), (3, 2), (2, 4), (4, 2), (3, 3)):
        yield track_rule(width, height, -1)
        yield track_rule(width, height, 10 ** 60)
        yield track_rule(width, height, 2, 5)
        yield track_rule(width, height, -3, 8)
    for low in (0, -1, -(10 ** 60)):
        yield chain_rule(4, low, 2)
        yield chain_rule(6, low, 3)
        yield chain_rule(9, low, 2)
        for number in FOUR_PLACES:
            yield (2, low, tuple(number >> k & 1 for k in range(16)))


def rules_of_every_kind():
    """Small rules: any table, sums, rules that tell one sign alone, renamings, greatest and least signs."""
    for signs, many in SMALL_WINDOWS:
        yield from some_rules(signs, many, -1)
        yield large_rule(signs, many)
        yield sum_rule(signs, 10 ** 60, many, range(many))
    for signs in ALL_SIGNS:
        yield (signs, 5, (1,) * signs)
        yield shift(signs, -7)
        yield (signs, 2, tuple(reversed(range(signs))))
        yield rule_of(signs, 0, 2, max)


class Refusals(unittest.TestCase):
    def refused(self, error, call, *given):
        with self.subTest((call.__name__, given)):
            with self.assertRaises(RowError) as caught:
                call(*given)
            self.assertIs(type(caught.exception), error)

    def refused_at(self, at, call, *given):
        with self.subTest((call.__name__, given)):
            with self.assertRaises(RowError) as caught:
                call(*given)
            self.assertIs(type(caught.exception), NoRow)
            self.assertEqual(caught.exception.at, at)
            self.assertIs(type(caught.exception.at), int)

    def words_alone(self, call, one, least=0):
        """What is no sign, anywhere in the word, is refused with the number of the first such thing."""
        signs = one[0]
        for wrong in NO_SIGNS + [signs, signs + 1]:
            for length in (max(1, least), least + 1, least + 4):
                for at in range(length):
                    self.refused_at(at, call, one, [0] * at + [wrong] + [1] * (length - at - 1))
        self.refused_at(1, call, one, [0, signs, None, True, -1] + [0] * least)
        self.refused_at(2, call, one, [1, 0, "1"] + [0] * least + [[]])
        self.refused_at(0, call, one, [None, None, 0] + [0] * least)
        self.refused_at(299, call, one, [0] * 299 + [signs])
        self.refused_at(150, call, one, [1] * 150 + [True] + [1] * 149)
