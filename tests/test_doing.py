"""What is borne behind passings, behind words, in orders and at last."""

import itertools
import unittest

from wherefrom.doing import borne_in, last_row, led_by, pass_one
from wherefrom.errors import NoOrder, NoPassing
from wherefrom.makers import folding, keeping, sorting, staying
from wherefrom.words import is_forward, last_order, look_row, normal_word
from followed import follow, forward_words, good_books, made_of, other_books, some_row
from samples import GREAT, mixed_book, swapped

MARKS = mixed_book((-5, 0, 2, 9, 11), 6, 4)


def kinds_in(row):
    return tuple(kind for kind, _ in row)


class Refusals(unittest.TestCase):
    def refused(self, kind, at, teller, *things):
        for _ in range(2):
            with self.assertRaises(kind) as caught:
                teller(*things)
            self.assertEqual(caught.exception.at, at)
            self.assertIs(type(caught.exception.at), int)


class PassOne(Refusals):
    def test_each_table_and_burden(self):
        for book in (MARKS, mixed_book((0, 1, 2), 3), mixed_book((0, 1), 1)):
            sorts = book[1]
            for u in range(len(book[0])):
                for v in range(u):
                    for a, b in itertools.product(range(sorts), repeat=2):
                        c, d = made_of(book, u, v, a, b)
                        self.assertEqual(pass_one(book, ((u, a), (v, b)), 0), ((v, c), (u, d)))

    def test_each_place(self):
        for many in range(2, 11):
            row = tuple((4 - k * 5 // many, k % 6) for k in range(many))
            for k in range(many - 1):
                if row[k][0] > row[k + 1][0]:
                    led = pass_one(MARKS, row, k)
                    self.assertEqual(led, follow(MARKS, row, (k,)))
                    self.assertEqual(led[:k] + led[k + 2:], row[:k] + row[k + 2:])
                    self.assertIs(look_row(MARKS, led), True)
                else:
                    self.refused(NoPassing, 0, pass_one, MARKS, row, k)

    def test_places_that_are_not_there(self):
        for row in ((), ((4, 0),), ((4, 0), (3, 1)), ((4, 0), (3, 1), (2, 2))):
            for place in (-1, -2, -3, -GREAT, len(row) - 1, len(row), len(row) + 1, GREAT):
                self.refused(NoPassing, 0, pass_one, MARKS, row, place)

    def test_slower_ones_and_like_ones_pass_none(self):
        for u in range(5):
            for v in range(u, 5):
                self.refused(NoPassing, 0, pass_one, MARKS, ((u, 1), (v, 2)), 0)

    def test_written_out(self):
        self.assertEqual(pass_one(keeping((0, 1), sorts=3), ((1, 2), (0, 1)), 0), ((0, 1), (1, 2)))
        self.assertEqual(pass_one(staying((0, 1), sorts=3), ((1, 2), (0, 1)), 0), ((0, 2), (1, 1)))
        self.assertEqual(pass_one(sorting((0, 1), sorts=3), ((1, 2), (0, 1)), 0), ((0, 1), (1, 2)))
        self.assertEqual(pass_one(folding((0, 1), sorts=3), ((1, 2), (0, 1)), 0), ((0, 1), (1, 0)))

    def test_by_name(self):
        row = ((2, 0), (1, 1))
        self.assertEqual(pass_one(place=0, row=row, book=MARKS), pass_one(MARKS, row, 0))


class LedBy(Refusals):
    def test_all_forward_words(self):
        for book in (MARKS, mixed_book((0, 1, 2, 3, 4), 2)):
            for kinds in ((), (3,), (4, 2), (4, 2, 1), (4, 3, 1, 0), (3, 0, 3, 0), (4, 4, 1, 0), (2, 4, 0, 1)):
                row = tuple((kind, k * 5 % book[1]) for k, kind in enumerate(kinds))
                for words in forward_words(kinds).values():
                    for word in words:
                        self.assertEqual(led_by(book, row, word), follow(book, row, word))

    def test_step_by_step(self):
        row = tuple((4 - k // 2, k % 6) for k in range(10))
        word = normal_word(last_order(kinds_in(row)))
        led = row
        for at, k in enumerate(word):
            self.assertEqual(led_by(MARKS, row, word[:at]), led)
            led = pass_one(MARKS, led, k)
        self.assertEqual(led_by(MARKS, row, word), led)
        self.assertEqual(kinds_in(led), tuple(sorted(kinds_in(row))))

    def test_without_letters(self):
        for many in range(11):
            row = some_row(MARKS, many, 1)
            self.assertEqual(led_by(MARKS, row, ()), row)

    def test_the_first_letter_that_cannot_be(self):
        row = ((2, 0), (1, 1), (0, 2))
        for k in (-1, -2, -GREAT, 2, 3, GREAT):
            self.refused(NoPassing, 0, led_by, MARKS, row, (k,))
            self.refused(NoPassing, 1, led_by, MARKS, row, (0, k, 0, k))
            self.refused(NoPassing, 2, led_by, MARKS, row, (1, 0, k))
            self.refused(NoPassing, 3, led_by, MARKS, row, (1, 0, 1, k))
        self.refused(NoPassing, 1, led_by, MARKS, row, (0, 0))
        self.refused(NoPassing, 3, led_by, MARKS, row, (0, 1, 0, 1))
        self.refused(NoPassing, 0, led_by, MARKS, ((0, 0), (1, 0), (0, 0)), (0, 1))
        self.refused(NoPassing, 1, led_by, MARKS, ((2, 0), (0, 1), (2, 2)), (0, 1))

    def test_rows_without_walkers_and_of_one(self):
        for row in ((), ((4, 5),)):
            for k in (0, 1, -1):
                self.refused(NoPassing, 0, led_by, MARKS, row, (k,))

    def test_what_is_told_are_tuples(self):
        row = ((2, 0), (1, 1), (0, 2))
        led = led_by(word=(0, 1), row=row, book=MARKS)
        self.assertIs(type(led), tuple)
        self.assertEqual([type(walker) for walker in led], [tuple] * 3)
        self.assertEqual(row, ((2, 0), (1, 1), (0, 2)))
        self.assertEqual(led_by(MARKS, row, (0, 1)), led)


class BorneIn(Refusals):
    def test_the_row_of_the_normal_word(self):
        for book in (MARKS, mixed_book((0, 1, 2, 3, 4), 2)):
            for kinds in ((), (1,), (4, 2), (0, 1), (4, 2, 1), (4, 3, 1, 0), (3, 0, 3, 0), (4, 4, 1, 0), (2, 4, 0, 1)):
                row = tuple((kind, k * 5 % book[1]) for k, kind in enumerate(kinds))
                for order in forward_words(kinds):
                    borne = borne_in(book, row, order)
                    self.assertEqual(borne, follow(book, row, normal_word(order)))
                    self.assertEqual(kinds_in(borne), tuple(kinds[i] for i in order))

    def test_by_a_book_that_is_not_good_the_word_counts(self):
        book = mixed_book((0, 1, 2), 3, 2)
        row = ((2, 0), (1, 1), (0, 2))
        both = follow(book, row, (0, 1, 0)), follow(book, row, (1, 0, 1))
        self.assertNotEqual(both[0], both[1])
        self.assertEqual(borne_in(book, row, (2, 1, 0)), both[0])

    def test_another_count(self):
        for many in range(11):
            row = some_row(MARKS, many, 1)
            for count in range(12):
                if count != many:
                    least = min(many, count)
                    for order in (tuple(range(count)), (-1,) * count, (GREAT,) * count, tuple(reversed(range(count)))):
                        self.refused(NoOrder, least, borne_in, MARKS, row, order)

    def test_numbers_amiss(self):
        row = ((4, 0), (3, 1), (2, 2), (1, 3), (0, 4))
        for order in ((0, 1, 2, 3, 4), (4, 3, 2, 1, 0)):
            for at in range(5):
                for number in (-1, 5, GREAT, -GREAT):
                    self.refused(NoOrder, at, borne_in, MARKS, row, swapped(order, at, number))
                for earlier in range(at):
                    self.refused(NoOrder, at, borne_in, MARKS, row, swapped(order, at, order[earlier]))

    def test_orders_that_are_not_forward(self):
        for many in range(5):
            for kinds in itertools.product(range(3), repeat=many):
                row = tuple((kind, k) for k, kind in enumerate(kinds))
                for order in itertools.permutations(range(many)):
                    wrong = [
                        at for at, i in enumerate(order)
                        if any(j > i and kinds[j] >= kinds[i] for j in order[:at])
                    ]
                    self.assertEqual(is_forward(kinds, order), not wrong)
                    if wrong:
                        self.refused(NoOrder, wrong[0], borne_in, MARKS, row, order)

    def test_who_has_passed_counts_not_who_was_passed(self):
        self.refused(NoOrder, 1, borne_in, MARKS, ((0, 0), (0, 0)), (1, 0))
        self.refused(NoOrder, 2, borne_in, MARKS, ((2, 0), (0, 0), (1, 0)), (2, 0, 1))
        self.refused(NoOrder, 2, borne_in, MARKS, ((1, 0), (2, 0), (0, 0)), (2, 1, 0))

    def test_the_order_of_the_refusals(self):
        row = ((0, 0), (1, 0), (2, 0))
        self.refused(NoOrder, 2, borne_in, MARKS, row, (7, 7))
        self.refused(NoOrder, 3, borne_in, MARKS, row, (7, 7, 7, 7))
        self.refused(NoOrder, 2, borne_in, MARKS, row, (1, 0, 1))
        self.refused(NoOrder, 2, borne_in, MARKS, row, (1, 0, GREAT))
        self.refused(NoOrder, 1, borne_in, MARKS, row, (1, 0, 2))

    def test_by_name(self):
        row = ((2, 0), (1, 1), (0, 2))
        self.assertEqual(borne_in(order=(1, 0, 2), row=row, book=MARKS), pass_one(MARKS, row, 0))


class LastRow(unittest.TestCase):
    def rows(self, book):
        return [some_row(book, many, seed) for many in range(11) for seed in range(3)]

    def test_that_of_the_last_order(self):
        for book in good_books() + other_books():
            for row in self.rows(book):
                last = last_row(book, row)
                kinds = kinds_in(row)
                self.assertEqual(last, borne_in(book, row, last_order(kinds)))
                self.assertEqual(last, follow(book, row, normal_word(last_order(kinds))))
                self.assertEqual(kinds_in(last), tuple(sorted(kinds)))

    def test_of_a_last_row_itself(self):
        for book in good_books() + other_books():
            for row in self.rows(book):
                last = last_row(book, row)
                self.assertEqual(last_row(book, last), last)

    def test_written_out(self):
        book = sorting((0, 1, 2), sorts=3)
        self.assertEqual(last_row(book, ()), ())
        self.assertEqual(last_row(book, ((1, 2),)), ((1, 2),))
        self.assertEqual(last_row(book, ((2, 2), (1, 1), (0, 0))), ((0, 0), (1, 1), (2, 2)))
        self.assertEqual(last_row(row=((2, 0), (2, 2), (0, 1)), book=book), ((0, 0), (2, 1), (2, 2)))


if __name__ == "__main__":
    unittest.main()
