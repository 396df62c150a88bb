"""The interface: each name stands in its module, with the told arguments, and goes by their names."""

import importlib
import inspect
import unittest

from wherefrom.byhand import Road
from wherefrom.errors import RoadError
from wherefrom.makers import folding, keeping, sorting
from wherefrom.mending import MOST, mend_book

# As the document writes them: arguments, those behind a `*` by name alone.
FUNCTIONS = """
books look_book(book)
books pair_at(book, u, v, a, b)
books with_pair(book, u, v, a, b, pair)
makers keeping(paces, *, sorts)
makers staying(paces, *, sorts)
makers sorting(paces, *, sorts)
makers folding(paces, *, sorts)
makers turning(paces, steps, *, sorts)
makers both_books(one, other)
makers renamed(book, names)
words look_row(book, row)
words order_behind(kinds, word)
words free_order(kinds, word)
words last_order(kinds)
words pairs_passed(order)
words is_forward(kinds, order)
words normal_word(order)
doing pass_one(book, row, place)
doing led_by(book, row, word)
doing borne_in(book, row, order)
doing last_row(book, row)
judging both_ways(book, kinds, burdens)
judging judge_book(book)
judging ends_of(book, row)
judging parting(book)
moves word_moved(word, moves)
moves wear_down(word)
moves join_words(one, other)
moves moves_hold(one, other, moves, *, freely=False)
roads look_spots(kinds, spots)
roads passings(book, kinds, spots)
roads word_by(book, kinds, spots, *, beat)
roads order_by(book, kinds, spots, *, beat)
roads spots_by(book, kinds, spots, *, beat)
roads row_by(book, row, spots, *, beat)
roads settled_at(book, kinds, spots)
roads row_at_last(book, row, spots)
ledback look_back(book)
ledback led_freely(book, row, word)
ledback rows_ahead(book, kinds, word, burdens)
ledback led_back(book, kinds, spots, burdens, *, beat)
sights beginnings(book, kinds, spots, sights)
sights clash_of(book, kinds, spots, sights)
rounds round_passings(book, kinds, spots, *, long)
rounds round_burdens(book, row, spots, *, long, beat)
rounds rounds_done(book, row, *, rounds=1)
rounds comes_again(book, row)
mending pairs_asked(book, kinds, burdens)
mending unmended_holds(book, paper, *, most=1)
mending mend_book(book, *, most=1)
texts show_book(book)
texts read_book(text)
texts show_setting(row, spots)
texts read_setting(book, text)
""".strip().split("\n")

METHODS = """
walk(self, beats=1)
shift(self, place, spot)
lay(self, place, burden)
join(self, kind, burden, spot)
leave(self, place)
back(self)
copied(self)
beat(self)
row(self)
spots(self)
numbers(self)
begun(self)
letters(self)
log(self)
""".strip().split("\n")

ERRORS = {
    "NoBook": ("word", "at"), "NoRow": ("word", "at"), "NoPassing": ("at",), "NoOrder": ("at",), "NoMove": ("at",),
    "NoSpots": ("at",), "NoSpot": ("spot",), "NoWay": ("u", "v"), "NoText": ("at",), "Full": ("most",),
    "NoWalker": ("place",),
}

BOOK = folding((0, 1, 2), sorts=2)
KINDS, BURDENS, SPOTS = (2, 1, 0), (1, 0, 1), (0, 1, 2)
# A thing for each argument by which all functions that have it can be asked.
THINGS = {
    "book": BOOK, "u": 2, "v": 1, "a": 0, "b": 1, "pair": (1, 0), "paces": (0, 1, 2), "sorts": 2,
    "steps": ((1, 0), (0, 1), (1, 1)), "names": (1, 0), "row": tuple(zip(KINDS, BURDENS)), "kinds": KINDS,
    "word": (0, 1), "order": (1, 2, 0), "place": 0, "burdens": BURDENS, "moves": (), "freely": True,
    "spots": SPOTS, "beat": 1, "sights": ((1, 0, 1), (2, 1, 0)), "long": 3, "rounds": 2, "paper": (KINDS, BURDENS, ()),
    "most": 1,
}
SPECIAL = {
    "both_books": {"one": BOOK, "other": sorting((0, 1, 2), sorts=2)},
    "join_words": {"one": (0, 1, 0), "other": (1, 0, 1)},
    "moves_hold": {"one": (0, 1, 0), "other": (1, 0, 1)},
    "read_book": {"text": "paces 0 1\nsorts 1\n1 0 : 0 0"},
    "read_setting": {"text": "2 1 at 0\n0 0 at 4"},
}


def function(line):
    module, rest = line.split(" ", 1)
    name = rest.split("(")[0]
    return getattr(importlib.import_module(f"wherefrom.{module}"), name), rest[len(name):]


class Interface(unittest.TestCase):
    def test_functions(self):
        for line in FUNCTIONS:
            teller, due = function(line)
            self.assertEqual(str(inspect.signature(teller)), due, line)

    def test_by_names_and_by_places(self):
        for line in FUNCTIONS:
            teller, _ = function(line)
            asked = inspect.signature(teller).parameters.values()
            things = {**THINGS, **SPECIAL.get(teller.__name__, {})}
            named = {each.name: things[each.name] for each in asked}
            told = teller(**dict(reversed(named.items())))
            placed = [things[each.name] for each in asked if each.kind is not each.KEYWORD_ONLY]
            more = {each.name: things[each.name] for each in asked if each.kind is each.KEYWORD_ONLY}
            self.assertEqual(teller(*placed, **more), told, line)
            if more:
                with self.assertRaises(TypeError):
                    teller(*placed, *more.values())
            self.plain(told)

    def plain(self, thing):
        """Tuples, texts, whole numbers, truths and None alone are told."""
        self.assertIn(type(thing), (tuple, str, int, bool, type(None)))
        if type(thing) is tuple:
            for part in thing:
                self.plain(part)

    def test_defaults_may_be_left_out(self):
        self.assertEqual(MOST, 1)
        for line in FUNCTIONS:
            if "=" in line:
                teller, _ = function(line)
                parameters = inspect.signature(teller).parameters.values()
                things = {**THINGS, **SPECIAL.get(teller.__name__, {})}
                named = {each.name: things[each.name] for each in parameters if each.default is each.empty}
                every = {each.name: each.default for each in parameters if each.default is not each.empty}
                self.assertEqual(teller(**named), teller(**named, **every))
        self.assertEqual(mend_book(keeping((0,), sorts=1)), ("mended", (), None))

    def test_road(self):
        self.assertEqual(str(inspect.signature(Road)), "(book, row=(), spots=())")
        for line in METHODS:
            name = line.split("(")[0]
            self.assertIn(name, vars(Road))
            self.assertEqual(str(inspect.signature(vars(Road)[name])), line[len(name):])
        for name in ("__len__", "__eq__", "__repr__"):
            self.assertIn(name, vars(Road))

    def test_errors(self):
        module = importlib.import_module("wherefrom.errors")
        self.assertEqual(RoadError.__bases__, (ValueError,))
        for name, fields in ERRORS.items():
            error = getattr(module, name)
            self.assertEqual(error.__bases__, (IndexError if name == "NoWalker" else RoadError,))
            made = error(*range(len(fields)))
            self.assertEqual([getattr(made, field) for field in fields], list(range(len(fields))))


if __name__ == "__main__":
    unittest.main()
