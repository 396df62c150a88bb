"""The whole promise, over all modules of the program."""

import itertools
import unittest

from wherefrom.books import with_pair
from wherefrom.byhand import Road
from wherefrom.doing import borne_in, last_row, led_by
from wherefrom.judging import ends_of, judge_book, parting
from wherefrom.ledback import led_back, led_freely, look_back, rows_ahead
from wherefrom.makers import both_books, folding, keeping, renamed, sorting, staying, turning
from wherefrom.mending import mend_book, pairs_asked, unmended_holds
from wherefrom.moves import join_words, moves_hold, wear_down, word_moved
from wherefrom.roads import (
    look_spots, order_by, passings, row_at_last, row_by, settled_at, spots_by, word_by,
)
from wherefrom.rounds import comes_again, round_burdens, round_passings, rounds_done
from wherefrom.sights import beginnings, clash_of
from wherefrom.texts import read_book, read_setting, show_book, show_setting
from wherefrom.words import is_forward, last_order, normal_word, order_behind
from followed import forward_words, good_books, last_from, other_books, some_row, ups
from samples import mixed_book, two_kinds

KINDS = ((), (2,), (1, 0), (2, 1, 0), (4, 3, 2, 1), (3, 3, 1, 0), (3, 0, 2, 0), (4, 2, 2, 1), (1, 4, 0, 2))


SPOTS = ((0, 1, 2, 3), (0, 1, 5000, 10000), (-9, 70, 71, 72), (0, 100, 101, 900), (-4 * 10 ** 18, 0, 1, 4 * 10 ** 18))


def rows_of_kinds(book, kinds):
    """Some rows of these kinds, with unlike burdens."""
    return [tuple((kind, (seed + k * (seed + 1)) % book[1]) for k, kind in enumerate(kinds)) for seed in range(3)]


def settings(book):
    """The rows of all kinds that the book has, with their forward words."""
    return [
        (row, words)
        for kinds in KINDS if max(kinds, default=0) < len(book[0])
        for words in [forward_words(kinds)]
        for row in rows_of_kinds(book, kinds)
    ]


class GoodBooks(unittest.TestCase):
    def test_whatever_forward_word_led_there(self):
        for book in good_books(5, 3):
            for row, found in settings(book):
                for order, words in found.items():
                    borne = borne_in(book, row, order)
                    for word in words:
                        self.assertEqual(led_by(book, row, word), borne)

    def test_parts_may_settle_first(self):
        for book in good_books():
            for many in (2, 3, 5, 10):
                for seed in range(3):
                    row = some_row(book, many, seed)
                    last = last_row(book, row)
                    for cut in range(many + 1):
                        rear, fore = row[:cut], row[cut:]
                        self.assertEqual(last_row(book, last_row(book, rear) + last_row(book, fore)), last)
                        self.assertEqual(last_row(book, rear + last_row(book, fore)), last)
                        self.assertEqual(last_row(book, last_row(book, rear) + fore), last)

    def test_wherever_they_set_out(self):
        for book in good_books(5, 3):
            for seed in range(4):
                row = some_row(book, 4, seed)
                for spots in SPOTS:
                    self.assertEqual(last_from(book, row, spots), last_row(book, row))
                    self.assertEqual(row_at_last(book, row, spots), last_row(book, row))

    def test_at_any_beat_the_order_alone_counts(self):
        for book in good_books(5, 3):
            for seed in range(4):
                row = some_row(book, 4, seed)
                kinds = tuple(kind for kind, _ in row)
                for spots, beat in itertools.product(SPOTS, (0, 1, 2, 5, 90, 10 ** 15)):
                    order = order_by(book, kinds, spots, beat=beat)
                    self.assertEqual(row_by(book, row, spots, beat=beat), borne_in(book, row, order))

    def test_ten_walkers_from_far_spots(self):
        for book in good_books(5, 6)[-20:]:
            row = some_row(book, 10, 1)
            for spots in (
                tuple(range(10)), tuple(range(-4 * 10 ** 18, 4 * 10 ** 18 + 1, 8 * 10 ** 18 // 9))[:10],
                tuple(k * k * k for k in range(10)), tuple(4 * 10 ** 18 - k for k in reversed(range(10))),
            ):
                self.assertEqual(row_at_last(book, row, spots), last_row(book, row))

    def test_no_move_between_forward_words_changes_what_is_borne(self):
        for book in (sorting((0, 1, 2, 3, 4), sorts=3), turning((0, 1, 2, 3, 4), ups(5, 3), sorts=5)):
            for row, found in settings(book):
                for words in found.values():
                    for one, other in itertools.product(words[:4], words[-4:]):
                        self.one_by_one(book, row, one, join_words(one, other))

    def one_by_one(self, book, row, word, moves):
        borne = led_by(book, row, word)
        for move in moves:
            word = word_moved(word, (move,))
            self.assertEqual(led_by(book, row, word), borne)


class AnyBook(unittest.TestCase):
    def test_just_one_of_good_and_parted(self):
        seen = set()
        for book in good_books() + other_books():
            judged, parted = judge_book(book), parting(book)
            self.assertEqual(judged[0] == "good", parted is None)
            self.assertEqual(judged[0] == "parted", parted is not None)
            if parted:
                row, spots, others = parted
                self.assertNotEqual(last_from(book, row, spots), last_from(book, row, others))
                self.assertNotEqual(row_at_last(book, row, spots), row_at_last(book, row, others))
                self.assertGreater(len(ends_of(book, row)), 1)
            seen.add(judged[0])
        self.assertEqual(seen, {"good", "parted"})

    def test_two_walkers_never_part(self):
        for book in other_books():
            for u in range(len(book[0])):
                for v in range(len(book[0])):
                    for a, b in itertools.product(range(book[1]), repeat=2):
                        self.assertEqual(len(ends_of(book, ((u, a), (v, b)))), 1)

    def test_two_books_side_by_side(self):
        books = [maker((0, 1, 2), sorts=2) for maker in (keeping, staying, sorting, folding)]
        books += [mixed_book((0, 1, 2), 2, seed) for seed in range(6)]
        books += [mixed_book((0, 1, 2), 3, seed) for seed in range(3)]
        for one, other in itertools.product(books, repeat=2):
            if one[1] * other[1] <= 6:
                both = {judge_book(one)[0], judge_book(other)[0]}
                self.assertEqual(judge_book(both_books(one, other))[0] == "good", both == {"good"})

    def test_forward_words_to_one_order_are_joined(self):
        for kinds in KINDS + ((4, 3, 2, 1, 0), (3, 2, 2, 1, 1)):
            for order, words in forward_words(kinds).items():
                for one, other in zip(words, reversed(words)):
                    moves = join_words(one, other)
                    self.assertIs(moves_hold(one, other, moves), True)
                    for move in moves:
                        one = word_moved(one, (move,))
                        self.assertEqual(order_behind(kinds, one), order)


class Renamed(unittest.TestCase):
    """Burdens renamed bring all renamed."""

    def test_all_that_is_borne(self):
        names, spots = (2, 0, 1), (0, 1, 4, 9)
        for book in [mixed_book((0, 2, 3), 3, seed) for seed in range(5)] + [sorting((0, 2, 3), sorts=3)]:
            new = renamed(book, names)
            self.assertEqual(judge_book(new)[0], judge_book(book)[0])
            for seed in range(4):
                row = some_row(book, 4, seed)
                kinds = tuple(kind for kind, _ in row)
                new_row = self.rows(names, row)
                self.assertEqual(last_row(new, new_row), self.rows(names, last_row(book, row)))
                for beat in (0, 1, 2, 5, 10 ** 15):
                    self.assertEqual(
                        row_by(new, new_row, spots, beat=beat), self.rows(names, row_by(book, row, spots, beat=beat)))
                    borne = round_burdens(book, row, spots, long=11, beat=beat)
                    self.assertEqual(
                        round_burdens(new, new_row, spots, long=11, beat=beat), self.burdens(names, borne))
                self.assertEqual(comes_again(new, new_row), comes_again(book, row))
                sights = [(0, 1, row[1][1]), (3, 0, 2), (7, 3, 1)]
                new_sights = [(beat, place, names[burden]) for beat, place, burden in sights]
                met = beginnings(book, kinds, spots, sights)
                self.assertEqual(
                    beginnings(new, kinds, spots, new_sights), tuple(sorted(self.burdens(names, one) for one in met)))
                self.assertEqual(clash_of(new, kinds, spots, new_sights), clash_of(book, kinds, spots, sights))
                self.assertEqual(
                    set(ends_of(new, new_row)), {self.burdens(names, end) for end in ends_of(book, row)})

    def rows(self, names, row):
        return tuple((kind, names[burden]) for kind, burden in row)

    def burdens(self, names, burdens):
        return tuple(names[burden] for burden in burdens)

    def test_mended_by_as_many(self):
        for seed in range(4):
            book = mixed_book((0, 2, 3), 2, seed)
            told, new = mend_book(book, most=2), mend_book(renamed(book, (1, 0)), most=2)
            self.assertEqual((told[0], len(told[1])), (new[0], len(new[1])))


class Mended(unittest.TestCase):
    def test_never_part(self):
        seen = 0
        for book in (sorting((0, 1, 2, 3), sorts=2), folding((0, 1, 2, 3), sorts=2), staying((0, 1, 2, 3), sorts=3)):
            for (u, v), a in itertools.product(two_kinds(4), range(2)):
                wrong = with_pair(book, u, v, a, 1, (1, 0))
                word, changes, _ = mend_book(wrong)
                self.assertEqual(word, "mended")
                for asked, pair in changes:
                    wrong = with_pair(wrong, *asked, pair)
                    seen += 1
                self.assertIsNone(parting(wrong))
                for seed in range(3):
                    row = some_row(wrong, 4, seed)
                    self.assertEqual({row_at_last(wrong, row, spots) for spots in SPOTS}, {last_row(wrong, row)})
                    self.assertEqual(len(ends_of(wrong, row)), 1)
        self.assertGreater(seen, 10)


class ToldAgain(unittest.TestCase):
    """What is asked again is told the same, whatever was asked between."""

    def asked(self):
        book, good = mixed_book((0, 2, 3), 3), sorting((0, 1, 2), sorts=2)
        row, spots, kinds = ((2, 0), (1, 1), (0, 1)), (0, 1, 9), (2, 1, 0)
        free = folding((0, 1, 2), sorts=2)
        moves = [("turn", 0), ("come", 3, 8)]
        return [
            (led_by, (book, row, (0, 1, 0))), (borne_in, (book, row, (2, 1, 0))), (last_row, (good, row)),
            (judge_book, (book,)), (judge_book, (good,)), (parting, (book,)), (parting, (good,)),
            (ends_of, (book, row)), (normal_word, ((2, 1, 0),)), (last_order, ((2, 1, 0),)),
            (is_forward, ((2, 1, 0), (1, 0, 2))), (order_behind, ((2, 1, 0), (0, 1))),
            (word_moved, ((0, 1, 0), moves)), (wear_down, ((0, 1, 0, 2, 2),)), (join_words, ((1, 0, 1), (0, 1, 0))),
            (moves_hold, ((0, 1, 0), (1, 0, 1), (("turn", 0),))),
            (look_spots, (kinds, spots)), (passings, (book, kinds, spots)), (settled_at, (book, kinds, spots)),
            (row_at_last, (book, row, spots)), (look_back, (free,)), (led_freely, (free, row, (0, 0, 1))),
            (rows_ahead, (good, kinds, (0, 1), (0, 1, 1))),
            (beginnings, (book, kinds, spots, [(1, 0, 1), (9, 2, 0)])), (comes_again, (book, row)),
            (clash_of, (good, kinds, spots, [(0, 0, 1), (0, 0, 0), (5, 1, 1)])), (rounds_done, (book, row)),
            (pairs_asked, (book, kinds, (0, 1, 2))), (mend_book, (book,)), (mend_book, (good,)),
            (unmended_holds, (book, mend_book(book, most=1)[1])), (show_book, (book,)), (show_setting, (row, spots)),
            (read_book, (show_book(book),)), (read_setting, (book, show_setting(row, spots))),
        ] + [
            (lambda *things, teller=teller: teller(*things, beat=2), (book, first, spots))
            for teller, first in ((word_by, kinds), (order_by, kinds), (spots_by, kinds), (row_by, row))
        ] + [
            (lambda *things: led_back(*things, beat=5), (good, kinds, spots, (0, 1, 1))),
            (lambda *things: round_passings(*things, long=12), (book, kinds, spots)),
            (lambda *things: round_burdens(*things, long=12, beat=10 ** 15), (book, row, spots)),
        ]

    def test_the_same(self):
        asked = self.asked()
        before = repr([things for _, things in asked])
        first = [teller(*things) for teller, things in asked]
        again = [teller(*things) for teller, things in reversed(asked)][::-1]
        self.assertEqual(first, again)
        self.assertEqual(repr([things for _, things in asked]), before)

    def test_tuples_texts_numbers_truths_and_none_alone(self):
        for teller, things in self.asked():
            self.plain(teller(*things))

    def test_of_a_road(self):
        row, spots = ((2, 0), (1, 1), (0, 1)), (0, 1, 9)
        road = Road(sorting((0, 1, 2), sorts=2), row, spots)
        road.walk(3)
        road.lay(1, 0)
        tellers = (road.beat, road.row, road.spots, road.numbers, road.begun, road.letters)
        first = [teller() for teller in tellers]
        road.copied().walk(9)
        road.log().clear()
        self.assertEqual([teller() for teller in tellers], first)
        self.assertEqual(row + spots, ((2, 0), (1, 1), (0, 1), 0, 1, 9))
        for thing in first:
            self.plain(thing)

    def plain(self, thing):
        self.assertIn(type(thing), (tuple, str, int, bool, type(None)))
        if type(thing) is tuple:
            for part in thing:
                self.plain(part)


if __name__ == "__main__":
    unittest.main()
