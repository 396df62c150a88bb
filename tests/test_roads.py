"""Settings out: spots looked at, passings, and who is where with what at a beat and at last."""

import math
import unittest
from fractions import Fraction

from wherefrom.doing import led_by
from wherefrom.errors import NoSpots
from wherefrom.makers import sorting
from wherefrom.roads import (
    look_spots, order_by, passings, row_at_last, row_by, settled_at, spots_by, word_by,
)
from wherefrom.words import order_behind
from followed import good_books, last_from, met_on, other_books, some_row, stand_at
from samples import GREAT, mixed_book, swapped

FAR = 4 * 10 ** 18
LONG = 10 ** 15
MARKS = mixed_book((-5, 0, 2, 9, 11), 6, 4)
NO_NUMBERS = (None, True, False, "", "1", (), (1,), ((((((((1,),),),),),),),))


def kinds_in(row):
    return tuple(kind for kind, _ in row)


def spots_for(many):
    """Spots of so many walkers: near, far, below nought, in heaps, to the bounds."""
    return [
        tuple(range(many)),
        tuple(range(-3 * many, 0, 3)),
        tuple(k * k * k - 40 for k in range(many)),
        tuple(k * 10 ** 15 + k % 3 for k in range(many)),
        tuple(k // 2 * 1000 + k % 2 for k in range(many)),
        tuple(-FAR + k for k in range(many - many // 2)) + tuple(FAR - k for k in reversed(range(many // 2))),
    ]


def settings():
    """Settings out (book, row, spots) by good books and others, of none to ten walkers."""
    found = []
    for book in good_books(5, 2) + other_books(5, 3)[::2] + [MARKS]:
        for many in (0, 1, 2, 3, 5, 7, 10):
            for seed, spots in enumerate(spots_for(many)):
                found.append((book, some_row(book, many, seed), spots))
    return found


def abreast():
    """Settings out in which many meet at one moment, at one spot or at several."""
    book = mixed_book((-1, 0, 1, 2, 3), 3, 1)
    found = []
    for paces, beats in ((book[0], 6), ((-1000, -999, 0, 7, 1000), 12)):
        other = (paces,) + book[1:]
        one = tuple((4 - k, k % 3) for k in range(5))
        found.append((other, one, tuple(-paces[kind] * beats for kind, _ in one)))
        found.append((other, one + one, tuple(
            -paces[kind] * beats + far for far in (0, 10 ** 6) for kind, _ in one
        )))
        two = tuple((4 - k // 2, k % 3) for k in range(10))
        found.append((other, two, tuple(-paces[kind] * beats + k % 2 for k, (kind, _) in enumerate(two))))
    # At the moment 1/2 and 1/3 and at their likes further on.
    found.append((book, ((4, 0), (2, 1), (3, 2), (1, 1), (4, 0), (0, 2)), (0, 1, 2, 3, 4, 6)))
    found.append((book, ((3, 0), (1, 1), (3, 2), (1, 1), (3, 0), (1, 2)), (0, 1, 2, 3, 4, 5)))
    found.append((book, ((3, 0), (0, 1), (3, 2), (0, 1), (3, 0), (0, 2)), (0, 1, 10, 11, 20, 21)))
    return found


class LookSpots(unittest.TestCase):
    def refused(self, at, kinds, spots):
        for _ in range(2):
            with self.assertRaises(NoSpots) as caught:
                look_spots(kinds, spots)
            self.assertEqual(caught.exception.at, at)
            self.assertIs(type(caught.exception.at), int)

    def test_let_by(self):
        for many in range(11):
            great = [tuple(k - GREAT for k in range(many)), tuple(GREAT * k for k in range(many))]
            for spots in spots_for(many) + great:
                self.assertIs(look_spots((1,) * many, spots), True)
        self.assertIs(look_spots((0, 0), (-GREAT, GREAT)), True)
        self.assertIs(look_spots(spots=(3,), kinds=(2,)), True)

    def test_no_tuple(self):
        for many in range(11):
            for thing in (None, True, False, 0, GREAT, "", "0123456789"[:many]):
                self.refused(0, (1,) * many, thing)

    def test_another_count(self):
        for many in range(11):
            for count in range(13):
                if count != many:
                    for spots in (tuple(range(count)), (5,) * count, (None,) * count, (GREAT,) * count):
                        self.refused(min(many, count), (1,) * many, spots)

    def test_no_whole_number(self):
        for many in (1, 2, 5, 10):
            for at in (0, many // 2, many - 1):
                for thing in NO_NUMBERS:
                    self.refused(at, (2,) * many, swapped(range(many), at, thing))

    def test_truths_where_the_number_would_do(self):
        self.refused(0, (0, 0), (False, 1))
        self.refused(1, (0, 0), (0, True))

    def test_not_rising(self):
        for spots in ((0, 0), (1, 0), (-1, -2), (GREAT, GREAT), (GREAT, GREAT - 1), (-GREAT, -GREAT - 1)):
            self.refused(1, (0, 0), spots)
        for many in (2, 5, 10):
            for at in range(1, many):
                self.refused(at, (2,) * many, swapped(range(many), at, at - 1))
                self.refused(at, (2,) * many, swapped(range(many), at, -GREAT))

    def test_two_things_amiss(self):
        self.refused(2, (0, 0, 0), (1, 0))
        self.refused(3, (0, 0, 0), (1, 0, None, 7))
        self.refused(1, (0, 0, 0), (1, 0, None))
        self.refused(1, (0, 0, 0), (1, None, 0))
        self.refused(0, (0, 0, 0), (None, 1, 1))
        self.refused(2, (0, 0, 0, 0), (1, 2, 2, "3"))


class Passings(unittest.TestCase):
    def test_against_fractions(self):
        for book, row, spots in settings() + abreast():
            kinds = kinds_in(row)
            told = passings(book, kinds, spots)
            self.assertEqual([(Fraction(*moment), i, j) for moment, i, j in told], met_on(book, kinds, spots))

    def test_moments_in_lowest_terms(self):
        seen = set()
        for book, row, spots in settings() + abreast():
            for (upper, lower), _, _ in passings(book, kinds_in(row), spots):
                self.assertGreater(upper, 0)
                self.assertGreaterEqual(lower, 1)
                self.assertEqual(math.gcd(upper, lower), 1)
                seen.add(lower)
        self.assertGreater(len(seen), 20)

    def test_at_its_turn_one_is_right_behind_the_other(self):
        for book, row, spots in settings() + abreast():
            order = list(range(len(row)))
            for _, i, j in passings(book, kinds_in(row), spots):
                k = order.index(i)
                self.assertEqual(order[k + 1], j)
                order[k:k + 2] = j, i

    def test_like_ones_and_slower_ones_pass_none(self):
        for kinds in ((), (3,), (2, 2), (0, 4), (0, 0, 1, 2, 2, 4), (4,) * 10):
            self.assertEqual(passings(MARKS, kinds, tuple(range(len(kinds)))), ())

    def test_written_out(self):
        book = sorting((-2, 1, 2), sorts=2)
        self.assertEqual(passings(book, (2, 0), (-6, 0)), (((3, 2), 0, 1),))
        self.assertEqual(passings(book, (2, 1, 0), (0, 1, 2)), (((1, 3), 1, 2), ((1, 2), 0, 2), ((1, 1), 0, 1)))
        one = ((1, 1), 0, 1), ((1, 1), 0, 2), ((1, 1), 1, 2)
        self.assertEqual(passings(book, (2, 1, 0), (0, 1, 4)), one)
        # Of one moment: the greater kind of i, then of j, then the lesser i, the lesser j.
        told = passings(book, (1, 0, 2, 0, 2, 1), (0, 3, 10, 14, 20, 21))
        due = (((1, 1), 4, 5), ((1, 1), 2, 3), ((1, 1), 0, 1), ((14, 3), 0, 3), ((11, 1), 2, 5))
        self.assertEqual(told, due)
        told = passings(book, (2, 0, 2, 0), (0, 4, 10, 14))
        self.assertEqual(told, (((1, 1), 0, 1), ((1, 1), 2, 3), ((7, 2), 0, 3)))

    def test_far_spots(self):
        book = sorting((-1000, 1000), sorts=2)
        self.assertEqual(passings(book, (1, 0), (-FAR, FAR)), (((FAR // 1000, 1), 0, 1),))
        self.assertEqual(passings(book, (1, 0), (-FAR, FAR - 1)), (((2 * FAR - 1, 2000), 0, 1),))
        self.assertEqual(passings(book, (1, 0), (-GREAT, GREAT)), (((GREAT // 1000, 1), 0, 1),))

    def test_kinds_of_what_is_told(self):
        told = passings(spots=(0, 1), kinds=(2, 1), book=MARKS)
        self.assertEqual(told, (((1, 2), 0, 1),))
        self.assertEqual([type(told), type(told[0]), type(told[0][0])], [tuple] * 3)


def beats_for(book, row, spots):
    """Beats of a setting out: 0, right before, at and behind its passings, far ones."""
    found = {0, 1, 2, LONG}
    for moment, _, _ in met_on(book, kinds_in(row), spots)[::5]:
        if moment <= LONG:
            found.update((max(0, math.ceil(moment) - 1), math.ceil(moment), math.floor(moment) + 1))
    return sorted(found)


class ByABeat(unittest.TestCase):
    def test_against_each_walker_by_itself(self):
        for book, row, spots in settings() + abreast():
            kinds = kinds_in(row)
            for beat in beats_for(book, row, spots):
                order, where, borne = stand_at(book, row, spots, beat)
                self.assertEqual(order_by(book, kinds, spots, beat=beat), order)
                self.assertEqual(spots_by(book, kinds, spots, beat=beat), where)
                self.assertEqual(row_by(book, row, spots, beat=beat), borne)

    def test_the_word_is_of_the_passings_done(self):
        for book, row, spots in settings() + abreast():
            kinds = kinds_in(row)
            for beat in beats_for(book, row, spots):
                word = word_by(book, kinds, spots, beat=beat)
                self.assertEqual(len(word), len([1 for moment, _, _ in met_on(book, kinds, spots) if moment <= beat]))
                self.assertEqual(order_behind(kinds, word), order_by(book, kinds, spots, beat=beat))
                self.assertEqual(led_by(book, row, word), row_by(book, row, spots, beat=beat))

    def test_letters_one_by_one(self):
        book = sorting((0, 1, 2), sorts=3)
        asked = ((0, ()), (1, (1,)), (2, (1,)), (4, (1,)), (5, (1, 0)), (8, (1, 0)), (9, (1, 0, 1)), (LONG, (1, 0, 1)))
        for beat, word in asked:
            self.assertEqual(word_by(book, (2, 1, 0), (0, 9, 10), beat=beat), word)
        self.assertEqual(word_by(book, (2, 1, 0), (0, 1, 2), beat=1), (0, 1, 0))

    def test_those_abreast(self):
        book = sorting((0, 1, 2), sorts=3)
        row = ((2, 2), (1, 1), (0, 0))
        self.assertEqual(spots_by(book, (2, 1, 0), (0, 1, 2), beat=1), (2, 2, 2))
        self.assertEqual(order_by(book, (2, 1, 0), (0, 1, 2), beat=1), (2, 1, 0))
        self.assertEqual(row_by(book, row, (0, 1, 2), beat=1), ((0, 0), (1, 1), (2, 2)))
        self.assertEqual(row_by(book, row, (0, 1, 2), beat=0), row)

    def test_gone_on_from_where_all_are(self):
        seen = 0
        for book, row, spots in settings():
            kinds = kinds_in(row)
            for beat in (1, 7, 1000, 10 ** 14):
                where = spots_by(book, kinds, spots, beat=beat)
                if len(set(where)) == len(where):
                    seen += 1
                    between = row_by(book, row, spots, beat=beat)
                    for more in (0, 1, 50, 9 * 10 ** 14):
                        self.assertEqual(
                            row_by(book, between, where, beat=more), row_by(book, row, spots, beat=beat + more))
                        self.assertEqual(
                            spots_by(book, kinds_in(between), where, beat=more),
                            spots_by(book, kinds, spots, beat=beat + more))
                    self.assertEqual(
                        row_at_last(book, between, where), row_at_last(book, row, spots))
        self.assertGreater(seen, 500)

    def test_by_name(self):
        row = ((2, 1), (1, 2))
        self.assertEqual(word_by(beat=1, spots=(0, 1), kinds=(2, 1), book=MARKS), (0,))
        self.assertEqual(order_by(beat=1, spots=(0, 1), kinds=(2, 1), book=MARKS), (1, 0))
        self.assertEqual(spots_by(beat=1, spots=(0, 1), kinds=(2, 1), book=MARKS), (1, 2))
        self.assertEqual(row_by(beat=1, spots=(0, 1), row=row, book=MARKS), led_by(MARKS, row, (0,)))
        for teller, first in ((word_by, (2, 1)), (order_by, (2, 1)), (spots_by, (2, 1)), (row_by, row)):
            with self.assertRaises(TypeError):
                teller(MARKS, first, (0, 1), 1)


class AtLast(unittest.TestCase):
    def test_the_least_beat_at_which_all_are_done(self):
        for book, row, spots in settings() + abreast():
            kinds = kinds_in(row)
            moments = [moment for moment, _, _ in met_on(book, kinds, spots)]
            settled = settled_at(book, kinds, spots)
            self.assertEqual(settled, math.ceil(max(moments, default=0)))
            self.assertIs(type(settled), int)
            self.assertEqual(len(word_by(book, kinds, spots, beat=settled)), len(moments))
            if settled:
                self.assertLess(len(word_by(book, kinds, spots, beat=settled - 1)), len(moments))

    def test_no_passings(self):
        for kinds in ((), (3,), (0, 4), (2, 2, 2)):
            spots = tuple(range(len(kinds)))
            row = tuple((kind, 1) for kind in kinds)
            self.assertEqual(settled_at(MARKS, kinds, spots), 0)
            self.assertEqual(row_at_last(MARKS, row, spots), row)

    def test_at_a_beat_and_between_two(self):
        book = sorting((0, 1, 3), sorts=2)
        self.assertEqual([settled_at(book, (2, 0), (0, far)) for far in (1, 2, 3, 4, 6, 7)], [1, 1, 1, 2, 2, 3])
        self.assertEqual(settled_at(spots=(0, 10), kinds=(1, 0), book=book), 10)

    def test_the_row_when_all_are_done(self):
        for book, row, spots in settings() + abreast():
            kinds = kinds_in(row)
            last = row_at_last(book, row, spots)
            self.assertEqual(last, last_from(book, row, spots))
            every = word_by(book, kinds, spots, beat=settled_at(book, kinds, spots))
            self.assertEqual(last, led_by(book, row, every))
            self.assertEqual(len(every), len(passings(book, kinds, spots)))
            self.assertEqual(kinds_in(last), tuple(sorted(kinds)))
        self.assertEqual(row_at_last(spots=(), row=(), book=MARKS), ())


if __name__ == "__main__":
    unittest.main()
