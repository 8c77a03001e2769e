"""Rules and words as texts."""

from rowrules.errors import NoRule, NoText
from rowrules.rules import rule

FIGURES = "0123456789"
MOST_FIGURES = 60


def check_text(text):
    if not isinstance(text, str):
        raise NoText("this is no text")


def read_figures(text):
    if len(text) == 0 or not all([figure in FIGURES for figure in text]):
        raise NoText("one or more figures are wanted")
    return [int(figure) for figure in text]


# Written again the number must be the same text: so there is but one text for each number.
def read_number(text):
    figures = text[1:] if text.startswith("-") else text
    if len(read_figures(figures)) > MOST_FIGURES:
        raise NoText("the number has too many figures")
    number = int(text)
    if str(number) != text:
        raise NoText("the number is written otherwise")
    return number


def read_rule(text):
    check_text(text)
    parts = text.split(":")
    if len(parts) != 3 or len(parts[0]) != 1:
        raise NoText("a rule is written as SIGNS:LOW:TABLE")
    signs = read_figures(parts[0])[0]
    low = read_number(parts[1])
    table = read_figures(parts[2])
    try:
        return rule(signs, low, table)
    except NoRule:
        raise NoText("the text writes no rule") from None


def show_figures(signs):
    return "".join([str(sign) for sign in signs])


def show_rule(one):
    return ":".join([str(one[0]), str(one[1]), show_figures(one[2])])


def read_word(text):
    check_text(text)
    if text == "-":
        return []
    word = read_figures(text)
    if 9 in word:
        raise NoText("no sign is written as 9")
    return word


def show_word(word):
    if len(word) == 0:
        return "-"
    return show_figures(word)
