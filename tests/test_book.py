"""The book: its rows, its answers, its refusals and their order (point 35)."""

import unittest

from helper import ALL_SIGNS, SMALL_WINDOWS, Refusals
from helper import chain_rule, large_rule, mixed_rule, rules_of_every_kind, shift, some_rules, sum_rule
from rowrules.back import way_back
from rowrules.basis import all_kept
from rowrules.before import many_before
from rowrules.book import Book
from rowrules.errors import NoAsk, NoName, NoRow, NoRule, NoText, NoWayBack, TooWide
from rowrules.forms import narrow, same, widened
from rowrules.joins import joined, moved, turned
from rowrules.onto import lost
from rowrules.pairs import one_to_one
from rowrules.rows import led, led_ring
from rowrules.rules import by_number, number_by
from rowrules.texts import show_rule, show_word

ONE = by_number(2, -1, 3, 110)
# Each row's first word and what is due behind it.
DUE = {
    "rule": ["new", "rule"], "join": ["new", "known", "known"], "turn": ["new", "known"], "back": ["new", "known"],
    "move": ["new", "known", "number"], "drop": ["known"], "names": [], "show": ["known"], "number": ["known"],
    "same": ["known", "known"], "led": ["known", "word"], "ring": ["known", "word"], "before": ["known", "word"],
    "onto": ["known"], "one": ["known"], "kept": ["known"],
}
RIGHT = {"new": "n", "known": "a", "rule": "2:0:01", "word": "01", "number": "-3"}
WRONG = {"new": "N", "known": "b", "rule": "2:0:0", "word": "09", "number": "03"}
NO_NAMES = ["", "A", "aB", "abcdefghi", "a1", "1", "a-b", "a_b", "-", "a\n", "\u00e4", "\u0430", "a.b", "z" * 300, "a\tb"]


def book_with(*rules):
    """A book in which the rules stand by the names a, b and so on."""
    book = Book()
    for name, one in zip("abcdefgh", rules):
        book.say(f"rule {name} {show_rule(one)}")
    return book


def all_of(book):
    """All that stands in a book."""
    names = book.say("names").split()
    return [(name, book.say(f"show {name}"), book.say(f"number {name}")) for name in names]


class Said(Refusals):
    def left_undone(self, error, book, row):
        before = all_of(book)
        self.refused(error, book.say, row)
        self.assertEqual(all_of(book), before)


class TestRules(Said):
    def test_a_rule_stands_by_its_name(self):
        for signs, many in SMALL_WINDOWS:
            for one in some_rules(signs, many, -3):
                book = Book()
                self.assertEqual(book.say(f"rule x {show_rule(one)}"), "ok")
                self.assertEqual(book.say("names"), "x")
                self.assertEqual(book.say("show x"), show_rule(narrow(one)))
                self.assertEqual(book.say("number x"), str(number_by(one)))

    def test_it_stands_as_it_is_told(self):
        book = Book()
        book.say("rule a 2:3:0011")
        self.assertEqual((book.say("show a"), book.say("number a")), ("2:3:01", "12"))
        self.assertEqual((book.say("led a 0101"), book.say("before a 0")), ("010", "2"))
        book.say("rule a 2:5:1111")
        self.assertEqual((book.say("show a"), book.say("number a")), ("2:0:11", "15"))

    def test_a_name_told_again(self):
        book = book_with(ONE, shift(3, 0))
        self.assertEqual(book.say("rule a 4:7:3210"), "ok")
        self.assertEqual((book.say("show a"), book.say("show b"), book.say("names")), ("4:7:3210", "3:0:012", "a b"))

    def test_names_of_one_to_eight_letters(self):
        book = Book()
        names = ["z", "az", "abc", "zyxw", "qrstu", "names", "letter", "onetwos", "abcdefgh", "zzzzzzzz", "rule", "ok"]
        for name in names:
            self.assertEqual(book.say(f"rule {name} 2:0:01"), "ok")
            self.assertEqual(book.say(f"show {name}"), "2:0:01")
        self.assertEqual(book.say("names"), " ".join(sorted(names)))
        for letter in "abcdefghijklmnopqrstuvwxyz":
            self.assertEqual(book.say(f"turn {letter} names"), "ok")

    def test_names_are_sorted(self):
        book = Book()
        self.assertEqual(book.say("names"), "")
        for name in ("b", "ab", "a", "ba", "aa"):
            book.say(f"rule {name} 2:0:01")
        self.assertEqual(book.say("names"), "a aa ab b ba")
        book.say("drop ab")
        self.assertEqual(book.say("names"), "a aa b ba")

    def test_drop(self):
        book = book_with(ONE, shift(3, 0))
        self.assertEqual(book.say("drop a"), "ok")
        self.assertEqual(book.say("names"), "b")
        self.refused(NoName, book.say, "show a")
        self.refused(NoName, book.say, "drop a")
        self.assertEqual(book.say("drop b"), "ok")
        self.assertEqual(book.say("names"), "")
        self.assertEqual(book.say("rule a 2:0:10"), "ok")
        self.assertEqual(book.say("show a"), "2:0:10")

    def test_two_books_beside_one_another(self):
        first, second = Book(), Book()
        first.say("rule a 2:0:01")
        self.assertEqual((first.say("names"), second.say("names")), ("a", ""))
        second.say("rule a 2:0:10")
        second.say("rule b 2:0:10")
        self.assertEqual((first.say("show a"), second.say("show a")), ("2:0:01", "2:0:10"))
        first.say("drop a")
        self.assertEqual((first.say("names"), second.say("names")), ("", "a b"))
        self.assertEqual(Book().say("names"), "")


class TestMade(Said):
    def test_join(self):
        first, second = (3, 0, (1, 2, 0)), (3, 1, (0, 0, 1))
        book = book_with(first, second, ONE, shift(2, 4))
        self.assertEqual(book.say("join x a b"), "ok")
        self.assertEqual(book.say("show x"), show_rule(joined(first, second)))
        self.assertEqual(book.say("join x b a"), "ok")
        self.assertEqual(book.say("show x"), show_rule(joined(second, first)))
        self.assertEqual(book.say("join x c d"), "ok")
        self.assertEqual(book.say("number x"), str(number_by(joined(ONE, shift(2, 4)))))
        self.assertEqual(book.say("names"), "a b c d x")

    def test_turn(self):
        book = book_with(ONE, (2, 5, (0, 0, 1, 1)))
        self.assertEqual(book.say("turn x a"), "ok")
        self.assertEqual(book.say("show x"), show_rule(turned(ONE)))
        self.assertEqual(book.say("turn x b"), "ok")
        self.assertEqual((book.say("show x"), book.say("number x")), ("2:-5:01", "10"))

    def test_back(self):
        for one in (shift(2, 5), (3, -4, (1, 2, 0)), chain_rule(6, 0, 3), widened(shift(2, 1), -2, 3)):
            book = book_with(one)
            self.assertEqual(book.say("back x a"), "ok")
            self.assertEqual(book.say("show x"), show_rule(way_back(one)))
            self.assertEqual(book.say("number x"), str(number_by(way_back(one))))

    def test_move(self):
        book = book_with(ONE, (2, 5, (0, 0, 1, 1)))
        for by in (0, 1, -1, 12, -305, 10 ** 60 - 1, 1 - 10 ** 60):
            self.assertEqual(book.say(f"move x a {by}"), "ok")
            self.assertEqual(book.say("show x"), show_rule(moved(ONE, by)))
            self.assertEqual(book.say(f"move x b {by}"), "ok")
            self.assertEqual(book.say("number x"), "12")

    def test_a_rule_that_stands_by_its_own_new_name(self):
        book = book_with(ONE)
        self.assertEqual(book.say("turn a a"), "ok")
        self.assertEqual(book.say("show a"), show_rule(turned(ONE)))
        self.assertEqual(book.say("move a a 7"), "ok")
        self.assertEqual(book.say("show a"), show_rule(moved(turned(ONE), 7)))
        self.assertEqual(book.say("join a a a"), "ok")
        self.assertEqual(book.say("show a"), show_rule(joined(moved(turned(ONE), 7), moved(turned(ONE), 7))))
        self.assertEqual(book.say("rule a 3:2:120"), "ok")
        self.assertEqual(book.say("back a a"), "ok")
        self.assertEqual(book.say("show a"), "3:-2:201")
        self.assertEqual(book.say("names"), "a")

    def test_what_a_rule_was_made_of_may_go(self):
        book = book_with(shift(2, 1), shift(2, 2))
        book.say("join c a b")
        book.say("drop a")
        book.say("rule b 2:0:10")
        self.assertEqual((book.say("show c"), book.say("names")), ("2:3:01", "b c"))

    def test_low_of_more_than_sixty_figures(self):
        book = book_with(shift(2, 10 ** 60 - 1))
        book.say("move a a 1")
        self.assertEqual(book.say("show a"), "2:1" + "0" * 60 + ":01")
        self.refused(NoText, book.say, "rule b " + book.say("show a"))
        book.say("turn a a")
        self.assertEqual(book.say("show a"), "2:-1" + "0" * 60 + ":01")
        book.say("join a a a")
        self.assertEqual(book.say("show a"), "2:-2" + "0" * 60 + ":01")


class TestAnswers(Said):
    def test_rows_by_hand(self):
        book = book_with(ONE, shift(2, 0), (2, 0, (0, 0, 0, 1)))
        answers = {
            "show a": "2:-1:01110110", "number a": "110", "same a a": "yes", "same a b": "no", "led a 00110": "111",
            "led a 00": "-", "led a -": "-", "ring a 00010": "00110", "ring a 1": "0", "before a 110": "5",
            "before a -": "4", "onto a": "no 01010", "onto b": "yes", "onto c": "no 101", "one a": "no", "one b": "yes",
            "kept a": "1,1", "kept b": "1,0 0,1",
        }
        for row, answer in answers.items():
            with self.subTest(row):
                self.assertEqual(book.say(row), answer)
                self.assertIs(type(book.say(row)), str)

    def test_rules_of_every_kind(self):
        for one in rules_of_every_kind():
            if abs(one[1]) < 10 ** 60:
                book = book_with(one)
                stretch = lost(one)
                self.assertEqual(book.say("onto a"), "yes" if stretch is None else "no " + show_word(stretch))
                self.assertEqual(book.say("one a"), "yes" if one_to_one(one) else "no")
                self.assertEqual(book.say("kept a"), " ".join(",".join(map(str, told)) for told in all_kept(one)))
                for word in ([], [0], [1, 0, 0, 1], [1] * 20):
                    text = show_word(word)
                    self.assertEqual(book.say(f"led a {text}"), show_word(led(one, word)))
                    self.assertEqual(book.say(f"before a {text}"), str(many_before(one, word)))
                    if word:
                        self.assertEqual(book.say(f"ring a {text}"), show_word(led_ring(one, word)))

    def test_weights_below_nought(self):
        book = book_with((3, 0, (0, 0, 1, 1, 1, 2, 1, 1, 2)))
        self.assertEqual(book.say("kept a"), "1,0,-1 0,1,2")

    def test_same(self):
        rules = [ONE, widened(ONE, -2, 2), shift(2, 0), shift(3, 0), (2, 3, (1, 1)), (2, -4, (1, 1, 1, 1))]
        book = book_with(*rules)
        for name, one in zip("abcdef", rules):
            for other, two in zip("abcdef", rules):
                self.assertEqual(book.say(f"same {name} {other}"), "yes" if same(one, two) else "no")

    def test_rules_that_are_not_small_are_answered_where_they_may_be(self):
        one = mixed_rule(2, 8, -4)
        book = book_with(one)
        self.assertEqual(book.say("show a"), show_rule(narrow(one)))
        self.assertEqual(book.say("number a"), str(number_by(one)))
        self.assertEqual(book.say("led a " + "01" * 20), show_word(led(one, [0, 1] * 20)))
        self.assertEqual(book.say("ring a 011"), show_word(led_ring(one, [0, 1, 1])))

    def test_the_texts_of_great_numbers(self):
        for signs in ALL_SIGNS:
            book = book_with((signs, 0, (0,) * signs))
            self.assertEqual(book.say("before a " + "0" * 385), str(signs ** 385))
        one = large_rule(2, 8, -(10 ** 59))
        table = (1,) * 255 + (0,)
        book = book_with(one, (2, 0, table))
        self.assertEqual(book.say("number b"), str(2 ** 255 - 1))
        self.assertEqual(book.say("show a"), show_rule(one))

    def test_the_answers_go_by_the_rules_that_stand_in_it(self):
        book = book_with(shift(2, 0))
        self.assertEqual(book.say("ring a 01"), "01")
        book.say("rule a 2:0:10")
        self.assertEqual(book.say("ring a 01"), "10")
        book.say("rule a 2:0:01")
        self.assertEqual(book.say("ring a 01"), "01")

    def test_to_ask_changes_nothing(self):
        book = book_with(ONE, shift(3, 1))
        before = all_of(book)
        for row in ("names", "show a", "number a", "same a b", "led a 01", "ring b 01", "before a 0", "onto a", "one a",
                    "kept b"):
            self.assertEqual(book.say(row), book.say(row))
        self.assertEqual(all_of(book), before)


class TestRefusals(Said):
    def row_of(self, first, at=None, wrong=None):
        words = [RIGHT[kind] for kind in DUE[first]]
        if at is not None:
            words[at] = WRONG[DUE[first][at]] if wrong is None else wrong
        return " ".join([first] + words)

    def test_the_rows_are_these(self):
        for first in DUE:
            if first != "names":
                self.assertEqual(type(book_with(shift(2, 0)).say(self.row_of(first))), str)

    def test_what_is_no_text(self):
        book = book_with(ONE)
        for thing in (None, True, 5, ["names"], ("names",), {}, [], b"names", 1.5):
            self.left_undone(NoAsk, book, thing)

    def test_no_such_row(self):
        book = book_with(ONE)
        for row in ("", " ", "  ", "a", "Names", "NAMES", "name", "namess", "rules a 2:0:01", "say a", "list", "names\n",
                    "\nnames", "names\ta", "show\ta", "ok", "a show", "join", "Show a", "sHow a", "twins a", "total a"):
            self.left_undone(NoAsk, book, row)

    def test_too_many_or_too_few_words(self):
        book = book_with(ONE)
        for first in DUE:
            row = self.row_of(first)
            self.left_undone(NoAsk, book, row + " a")
            self.left_undone(NoAsk, book, row + " a a")
            words = row.split(" ")
            for many in range(1, len(words)):
                self.left_undone(NoAsk, book, " ".join(words[:many]))

    def test_a_blank_at_an_end_or_two_side_by_side(self):
        book = book_with(ONE)
        for first in DUE:
            row = self.row_of(first)
            self.left_undone(NoAsk, book, " " + row)
            self.left_undone(NoAsk, book, row + " ")
            if " " in row:
                self.left_undone(NoAsk, book, row.replace(" ", "  ", 1))

    def test_a_word_without_signs_where_the_number_of_words_is_right(self):
        book = book_with(ONE)
        self.left_undone(NoName, book, "show ")
        self.left_undone(NoName, book, "rule  2:0:01")
        self.left_undone(NoText, book, "rule a ")
        self.left_undone(NoText, book, "led a ")
        self.left_undone(NoText, book, "move x a ")
        self.left_undone(NoAsk, book, " show")

    def test_each_word_that_is_wrong(self):
        book = book_with(ONE)
        for first, due in DUE.items():
            for at, kind in enumerate(due):
                error = NoName if kind in ("new", "known") else NoText
                self.left_undone(error, book, self.row_of(first, at))

    def test_the_first_wrong_word_is_refused(self):
        book = book_with(ONE)
        self.left_undone(NoName, book, "rule A 2:0:0")
        self.left_undone(NoName, book, "led b 09")
        self.left_undone(NoName, book, "ring b x")
        self.left_undone(NoName, book, "before A -1")
        self.left_undone(NoName, book, "move A a 03")
        self.left_undone(NoName, book, "move x b 03")
        self.left_undone(NoText, book, "move x a 03")

    def test_no_names(self):
        book = book_with(ONE)
        for name in NO_NAMES:
            self.left_undone(NoName, book, f"rule {name} 2:0:01")
            self.left_undone(NoName, book, f"turn {name} a")
            self.left_undone(NoName, book, f"back {name} a")
            self.left_undone(NoName, book, f"join {name} a a")
            self.left_undone(NoName, book, f"move {name} a 1")
            for first in ("show", "drop", "number", "onto", "one", "kept"):
                self.left_undone(NoName, book, f"{first} {name}")
            self.left_undone(NoName, book, f"same {name} a")
            self.left_undone(NoName, book, f"same a {name}")
            self.left_undone(NoName, book, f"join x a {name}")
            self.left_undone(NoName, book, f"join x {name} a")

    def test_the_name_goes_ahead_of_what_is_to_be_done(self):
        book = book_with(large_rule(2, 8), shift(3, 0), sum_rule(2, 0, 2, [0, 1]))
        self.left_undone(NoName, book, "join X a b")
        self.left_undone(NoName, book, "back X a")
        self.left_undone(NoName, book, "back X c")
        self.left_undone(NoName, book, "join x a z")
        self.left_undone(NoText, book, "led a 29")
        self.left_undone(NoRow, book, "led a 28")

    def test_no_texts(self):
        book = book_with(ONE)
        for text in ("2:0:0", "2:00:01", "1:0:0", "2:-0:01", "x", "-", "2:0", "2:0:01\n", "2:" + "1" * 61 + ":01", "2:0:02"):
            self.left_undone(NoText, book, f"rule x {text}")
            self.left_undone(NoText, book, f"rule a {text}")
        for text in ("9", "019", "x", "--", "-0", "0\n", "+1", "a"):
            for first in ("led", "ring", "before"):
                self.left_undone(NoText, book, f"{first} a {text}")
        for text in ("00", "-0", "+1", "01", "1.0", "x", "-", "1\n", "1" * 61, "-" + "1" * 61, "0x1", "--1"):
            self.left_undone(NoText, book, f"move x a {text}")
            self.left_undone(NoText, book, f"move a a {text}")

    def test_what_is_to_be_done_is_refused(self):
        book = book_with(large_rule(2, 8), shift(3, 0), sum_rule(2, 0, 2, [0, 1]), ONE, chain_rule(7, 0, 3))
        for row in ("join a a b", "join x b a", "join b c b"):
            self.left_undone(NoRule, book, row)
        for row in ("join x a c", "join c c a", "back x a", "back e e", "onto a", "one a", "kept a"):
            self.left_undone(TooWide, book, row)
        for row in ("back c c", "back x d"):
            self.left_undone(NoWayBack, book, row)
        for row in ("led d 2", "led d 012", "ring d 8", "ring d -", "before d 3", "before b 0123"):
            self.left_undone(NoRow, book, row)

    def test_the_at_of_no_row(self):
        book = book_with(ONE, shift(3, 0))
        for row, at in (("led a 0120", 2), ("ring a -", 0), ("ring b 3", 0), ("before b 012345", 3), ("led a 2", 0)):
            self.refused_at(at, book.say, row)

    def test_a_book_goes_on_behind_a_refusal(self):
        book = Book()
        self.refused(NoName, book.say, "show a")
        self.refused(NoAsk, book.say, "")
        self.assertEqual(book.say("rule a 2:0:10"), "ok")
        self.refused(NoText, book.say, "rule a 2:0:1")
        self.assertEqual(book.say("show a"), "2:0:10")


if __name__ == "__main__":
    unittest.main()
