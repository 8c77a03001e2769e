"""A book of rules, each by a name: rows are said to it, and it answers with texts."""

from rowrules.back import way_back
from rowrules.basis import all_kept
from rowrules.before import many_before
from rowrules.errors import NoAsk, NoName
from rowrules.forms import narrow, same
from rowrules.joins import joined, moved, turned
from rowrules.onto import lost
from rowrules.pairs import one_to_one
from rowrules.rows import led, led_ring
from rowrules.rules import number_by
from rowrules.texts import read_number, read_rule, read_word, show_rule, show_word

LETTERS = "abcdefghijklmnopqrstuvwxyz"
LONGEST_NAME = 8


def read_name(text):
    if len(text) == 0 or len(text) > LONGEST_NAME or not all([letter in LETTERS for letter in text]):
        raise NoName("a name has one to eight letters from a to z")
    return text


def rule_by(rules, text):
    if text not in rules:
        raise NoName("no rule stands by this name")
    return rules[text]


def put(rules, name, one):
    rules[name] = one
    return "ok"


def yes_or_no(truth):
    return "yes" if truth else "no"


# Below, one function for each row: it reads the row's words in their order, and does what is to be done last.
def say_rule(rules, words):
    name = read_name(words[1])
    return put(rules, name, read_rule(words[2]))


def say_join(rules, words):
    name = read_name(words[1])
    first = rule_by(rules, words[2])
    second = rule_by(rules, words[3])
    return put(rules, name, joined(first, second))


def say_turn(rules, words):
    name = read_name(words[1])
    return put(rules, name, turned(rule_by(rules, words[2])))


def say_back(rules, words):
    name = read_name(words[1])
    return put(rules, name, way_back(rule_by(rules, words[2])))


def say_move(rules, words):
    name = read_name(words[1])
    one = rule_by(rules, words[2])
    return put(rules, name, moved(one, read_number(words[3])))


def say_drop(rules, words):
    rule_by(rules, words[1])
    rules.pop(words[1])
    return "ok"


def say_names(rules, words):
    return " ".join(sorted(rules))


def say_show(rules, words):
    return show_rule(narrow(rule_by(rules, words[1])))


def say_number(rules, words):
    return str(number_by(rule_by(rules, words[1])))


def say_same(rules, words):
    one = rule_by(rules, words[1])
    return yes_or_no(same(one, rule_by(rules, words[2])))


def say_led(rules, words):
    one = rule_by(rules, words[1])
    return show_word(led(one, read_word(words[2])))


def say_ring(rules, words):
    one = rule_by(rules, words[1])
    return show_word(led_ring(one, read_word(words[2])))


def say_before(rules, words):
    one = rule_by(rules, words[1])
    return str(many_before(one, read_word(words[2])))


def say_onto(rules, words):
    stretch = lost(rule_by(rules, words[1]))
    if stretch is None:
        return "yes"
    return "no " + show_word(stretch)


def say_one(rules, words):
    return yes_or_no(one_to_one(rule_by(rules, words[1])))


def show_weights(weights):
    return ",".join([str(weight) for weight in weights])


def say_kept(rules, words):
    return " ".join([show_weights(weights) for weights in all_kept(rule_by(rules, words[1]))])


# How many words each row has, its first one with them, and what it does.
ROWS = {
    "rule": (3, say_rule),
    "join": (4, say_join),
    "turn": (3, say_turn),
    "back": (3, say_back),
    "move": (4, say_move),
    "drop": (2, say_drop),
    "names": (1, say_names),
    "show": (2, say_show),
    "number": (2, say_number),
    "same": (3, say_same),
    "led": (3, say_led),
    "ring": (3, say_ring),
    "before": (3, say_before),
    "onto": (2, say_onto),
    "one": (2, say_one),
    "kept": (2, say_kept),
}


class Book:
    def __init__(self):
        self.rules = {}

    def say(self, row):
        if not isinstance(row, str):
            raise NoAsk("a row is a text")
        words = row.split(" ")
        if words[0] not in ROWS or len(words) != ROWS[words[0]][0]:
            raise NoAsk("there is no such row")
        return ROWS[words[0]][1](self.rules, words)
