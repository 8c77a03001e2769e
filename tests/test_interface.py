"""The interface: the names, arguments and defaults of each module, as DOC.md has them."""

import importlib
import inspect
import unittest

INTERFACE = {
    "words": ["is_whole(thing)", "number_of(word, signs)", "word_of(number, signs, many)"],
    "rules": [
        "rule(signs, low, table)", "places(one)", "next_sign(one, word)", "number_by(one)",
        "by_number(signs, low, many, number)", "still(signs)",
    ],
    "rows": [
        "led(one, row)", "led_ring(one, ring)", "after(one, ring, times=1)", "comes_again(one, ring, most=64)",
    ],
    "forms": ["counting(one)", "narrow(one)", "same(one, other)", "widened(one, low, high)"],
    "joins": ["moved(one, by)", "turned(one)", "joined(first, second)", "repeated(one, many)"],
    "before": [
        "many_before(one, row)", "before_at(one, row, number)", "place_before(one, row)", "all_before(one, row, most=50)",
    ],
    "frames": ["frame(one)", "nodes(one)", "everything(one)", "step(one, some, sign)"],
    "ringcounts": ["rings_before(one, ring)"],
    "onto": ["reach_paper(one)", "onto(one)", "lost(one)"],
    "reaches": ["reaches(one, other)", "pair_paper(one, other)"],
    "pairs": ["ranks(one)", "one_to_one(one)", "twins(one)"],
    "back": ["way_back(one)"],
    "weights": [
        "total(signs, weights, ring)", "flows(one, weights)", "kept(one, weights)", "changed(one, weights)",
    ],
    "basis": ["all_kept(one)", "changes(one)"],
    "papers": [
        "Paper()", "OntoPaper(sets)", "LostPaper(row)", "RankPaper(even, rows)", "BackPaper(other)",
        "TwinPaper(row, other)", "KeepingPaper(weights, flows)", "ChangePaper(weights, ring)",
        "paper_for(one, question, weights=None)",
    ],
    "texts": ["read_rule(text)", "show_rule(one)", "read_word(text)", "show_word(word)"],
    "book": ["Book()"],
}
METHODS = {
    "papers": [
        (name, method)
        for name in "Paper OntoPaper LostPaper RankPaper BackPaper TwinPaper KeepingPaper ChangePaper".split()
        for method in ("told(self)", "holds(self, one)")
    ],
    "book": [("Book", "say(self, row)")],
}


class TestInterface(unittest.TestCase):
    def test_each_name_with_its_arguments_and_defaults(self):
        for module, rows in INTERFACE.items():
            for row in rows:
                name = row.partition("(")[0]
                found = getattr(importlib.import_module(f"rowrules.{module}"), name)
                with self.subTest((module, row)):
                    self.assertEqual(name + str(inspect.signature(found)), row)
                    self.assertEqual(found.__module__, f"rowrules.{module}")

    def test_each_method_with_its_arguments(self):
        for module, rows in METHODS.items():
            for name, row in rows:
                found = getattr(importlib.import_module(f"rowrules.{module}"), name)
                method = row.partition("(")[0]
                with self.subTest((module, name, row)):
                    self.assertEqual(method + str(inspect.signature(getattr(found, method))), row)


if __name__ == "__main__":
    unittest.main()
