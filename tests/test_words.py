"""Rows looked at; words, orders, the normal word to an order."""

import itertools
import unittest

from wherefrom.errors import NoOrder, NoPassing, NoRow
from wherefrom.words import (
    free_order, is_forward, last_order, look_row, normal_word, order_behind, pairs_passed,
)
from followed import forward_words, is_free, swaps
from samples import GREAT, PACES, mixed_book, swapped

NO_TUPLES = (None, True, False, 0, 1, -1, 2, GREAT, "", "ab", "walker")
NO_NUMBERS = (None, True, False, "", "0", "ab", (), (0,), (0, 0))

# Orders of more than five walkers, of which there are too many to ask them all.
LONG_ORDERS = (
    (5, 4, 3, 2, 1, 0),
    (1, 2, 3, 4, 5, 6, 0),
    (6, 0, 1, 2, 3, 4, 5),
    (3, 0, 7, 5, 1, 2, 6, 4),
    (8, 0, 7, 1, 6, 2, 5, 3, 4),
    (0, 1, 2, 3, 4, 5, 6, 7, 8, 9),
    (9, 8, 7, 6, 5, 4, 3, 2, 1, 0),
    (2, 9, 4, 0, 7, 5, 8, 1, 3, 6),
)


def short_orders():
    """All orders of none to five walkers."""
    return [order for many in range(6) for order in itertools.permutations(range(many))]


def all_kinds(most, many):
    """All kinds of up to most walkers, of so many kinds."""
    return [kinds for count in range(most + 1) for kinds in itertools.product(range(many), repeat=count)]


class LookRow(unittest.TestCase):
    book = mixed_book((-3, 0, 4), 4)
    row = ((2, 3), (0, 0), (1, 2), (2, 0), (0, 3))

    def refused(self, row, word, at, book=None):
        for _ in range(2):
            with self.assertRaises(NoRow) as caught:
                look_row(book or self.book, row)
            self.assertEqual((caught.exception.word, caught.exception.at), (word, at))
            self.assertIs(type(caught.exception.at), int)

    def test_rows_of_none_to_ten(self):
        for paces in PACES:
            for sorts in (1, 3, 6):
                book = mixed_book(paces, sorts)
                for many in range(11):
                    row = tuple((k % len(paces), k * k % sorts) for k in range(many))
                    self.assertIs(look_row(book, row), True)
                    self.assertIs(look_row(book, ((len(paces) - 1, sorts - 1),) * many), True)

    def test_eleven_and_more(self):
        for many in (11, 12, 100):
            self.refused(((0, 0),) * many, "form", 0)
            self.refused((None,) * many, "form", 0)

    def test_no_tuple(self):
        for thing in NO_TUPLES:
            self.refused(thing, "form", 0)

    def test_no_walker(self):
        things = NO_TUPLES + ((), (0,), (0, 0, 0), ((0, 0),), (None, None, None))
        for at in range(len(self.row)):
            for thing in things:
                self.refused(swapped(self.row, at, thing), "walker", at)

    def test_no_kind(self):
        for at, (_, burden) in enumerate(self.row):
            for kind in NO_NUMBERS + (-1, 3, 4, GREAT, -GREAT):
                self.refused(swapped(self.row, at, (kind, burden)), "kind", at)

    def test_no_burden(self):
        for at, (kind, _) in enumerate(self.row):
            for burden in NO_NUMBERS + (-1, 4, 5, GREAT, -GREAT):
                self.refused(swapped(self.row, at, (kind, burden)), "burden", at)

    def test_the_last_of_ten(self):
        row = ((0, 0),) * 9
        self.refused(row + (None,), "walker", 9)
        self.refused(row + ((3, 0),), "kind", 9)
        self.refused(row + ((0, 4),), "burden", 9)

    def test_kinds_and_sorts_are_the_books(self):
        for many in range(1, 6):
            for sorts in range(1, 7):
                book = mixed_book(tuple(range(many)), sorts)
                self.assertIs(look_row(book, ((many - 1, sorts - 1),)), True)
                self.refused(((many, 0),), "kind", 0, book)
                self.refused(((0, sorts),), "burden", 0, book)

    def test_two_things_amiss(self):
        self.refused((None,) * 11, "form", 0)
        self.refused(((9, 9), None), "kind", 0)
        self.refused(((0, 9), None), "burden", 0)
        self.refused((None, (9, 9)), "walker", 0)
        self.refused(((0, 0), (9, 9), (9, 9)), "kind", 1)
        self.refused(((0, 0), (True, None), None), "kind", 1)
        self.refused(((0, 0), (0, None), (9, 0)), "burden", 1)
        self.refused(((0, 0), (9, 9, 9), (9, 0)), "walker", 1)

    def test_ten_tuples_within_one_another(self):
        deep = ()
        for _ in range(7):
            deep = (deep, deep)
        self.refused((deep,), "kind", 0)
        self.refused(((deep, deep, deep),), "walker", 0)
        self.refused(((0, deep),), "burden", 0)

    def test_by_name(self):
        self.assertIs(look_row(row=self.row, book=self.book), True)


class Behind(unittest.TestCase):
    """The order behind forward words and behind free ones."""

    def refused(self, teller, kinds, word, at):
        for _ in range(2):
            with self.assertRaises(NoPassing) as caught:
                teller(kinds, word)
            self.assertEqual(caught.exception.at, at)
            self.assertIs(type(caught.exception.at), int)

    def held(self, teller, kinds, word, lets_by):
        """Hold a teller's answer against going letter by letter."""
        order = list(range(len(kinds)))
        for at, k in enumerate(word):
            if k not in range(len(order) - 1) or not lets_by(kinds[order[k]], kinds[order[k + 1]]):
                self.refused(teller, kinds, word, at)
                return
            order[k:k + 2] = order[k + 1], order[k]
        self.assertEqual(teller(kinds, word), tuple(order))
        self.assertIs(type(teller(kinds, word)), tuple)

    def test_all_short_words(self):
        for kinds in all_kinds(4, 3):
            for many in range(4):
                for word in itertools.product(range(-1, 4), repeat=many):
                    self.held(order_behind, kinds, word, lambda u, v: u > v)
                    self.held(free_order, kinds, word, lambda u, v: u != v)

    def test_without_letters(self):
        for many in range(11):
            kinds = tuple(k % 5 for k in range(many))
            self.assertEqual(order_behind(kinds, ()), tuple(range(many)))
            self.assertEqual(free_order(kinds, ()), tuple(range(many)))

    def test_written_out(self):
        self.assertEqual(order_behind((2, 1, 0), (0, 1, 0)), (2, 1, 0))
        self.assertEqual(order_behind((2, 1, 0), (0, 1)), (1, 2, 0))
        self.assertEqual(order_behind((4, 4, 0), (1, 0)), (2, 0, 1))
        self.assertEqual(free_order((0, 1), (0,)), (1, 0))
        self.assertEqual(free_order((0, 1), (0, 0)), (0, 1))
        self.assertEqual(free_order((0, 1, 2), (0, 1)), (1, 2, 0))

    def test_free_but_not_forward(self):
        self.assertEqual(free_order((0, 1, 2), (1, 0, 1)), (2, 1, 0))
        self.refused(order_behind, (0, 1, 2), (1, 0, 1), 0)
        self.refused(order_behind, (2, 1, 0), (0, 0), 1)
        self.assertEqual(free_order((2, 1, 0), (0, 0)), (0, 1, 2))

    def test_like_kinds_never_pass(self):
        for teller in (order_behind, free_order):
            self.refused(teller, (3, 3), (0,), 0)
            self.refused(teller, (3, 0, 3), (0, 1), 1)
            self.refused(teller, (4, 1, 1), (0, 1, 0), 2)

    def test_letters_that_are_no_places(self):
        for teller in (order_behind, free_order):
            for k in (-1, -2, -3, -GREAT, 2, 3, 9, GREAT):
                self.refused(teller, (2, 1, 0), (k,), 0)
                self.refused(teller, (2, 1, 0), (0, 1, k), 2)
                self.refused(teller, (2, 1, 0), (0, k, 0, k), 1)
                self.refused(teller, (2, 1, 0), (0, 1, 0) + (k,), 3)

    def test_rows_without_walkers_and_of_one(self):
        for teller in (order_behind, free_order):
            for kinds in ((), (0,), (4,)):
                self.assertEqual(teller(kinds, ()), tuple(range(len(kinds))))
                for k in (0, -1, 1, 8, GREAT):
                    self.refused(teller, kinds, (k,), 0)
                    self.refused(teller, kinds, (k, 0), 0)

    def test_long_words(self):
        kinds = (4, 4, 3, 3, 2, 2, 1, 1, 0, 0)
        word = normal_word((8, 9, 6, 7, 4, 5, 2, 3, 0, 1))
        self.assertEqual(len(word), 40)
        self.assertEqual(order_behind(kinds, word), (8, 9, 6, 7, 4, 5, 2, 3, 0, 1))
        self.assertEqual(free_order(kinds, word + word[::-1]), tuple(range(10)))
        self.refused(order_behind, kinds, word + (0,), 40)
        self.refused(free_order, kinds, word + (8, 1), 40)

    def test_by_name(self):
        self.assertEqual(order_behind(word=(0,), kinds=(1, 0)), (1, 0))
        self.assertEqual(free_order(word=(0,), kinds=(0, 1)), (1, 0))

    def test_kinds_handed_in_stay(self):
        kinds, word = (2, 1, 0), (0, 1, 0)
        order_behind(kinds, word)
        free_order(kinds, word)
        self.assertEqual((kinds, word), ((2, 1, 0), (0, 1, 0)))


class Passed(unittest.TestCase):
    def test_pairs_passed(self):
        for order in short_orders() + list(LONG_ORDERS):
            due = [
                (i, j) for i in range(len(order)) for j in range(i + 1, len(order))
                if order.index(i) > order.index(j)
            ]
            self.assertEqual(pairs_passed(order), tuple(due))
            self.assertEqual(pairs_passed(order=order), tuple(due))

    def test_pairs_written_out(self):
        self.assertEqual(pairs_passed(()), ())
        self.assertEqual(pairs_passed((0,)), ())
        self.assertEqual(pairs_passed((1, 0)), ((0, 1),))
        self.assertEqual(pairs_passed((2, 0, 1)), ((0, 2), (1, 2)))
        self.assertEqual(pairs_passed((3, 1, 2, 0)), ((0, 1), (0, 2), (0, 3), (1, 3), (2, 3)))

    def test_pairs_of_a_forward_word_are_those_that_passed(self):
        for order, words in forward_words((4, 3, 2, 1)).items():
            for word in words:
                self.assertEqual(tuple(sorted(swaps(word, 4)[1])), pairs_passed(order))

    def test_is_forward(self):
        for kinds in all_kinds(4, 4):
            reached = forward_words(kinds)
            for order in itertools.permutations(range(len(kinds))):
                self.assertIs(is_forward(kinds, order), order in reached)

    def test_is_forward_of_ten(self):
        kinds = (4, 4, 3, 3, 2, 2, 1, 1, 0, 0)
        self.assertIs(is_forward(kinds, tuple(range(10))), True)
        self.assertIs(is_forward(kinds, (8, 9, 6, 7, 4, 5, 2, 3, 0, 1)), True)
        self.assertIs(is_forward(kinds, (9, 8, 6, 7, 4, 5, 2, 3, 0, 1)), False)
        self.assertIs(is_forward(kinds, (8, 9, 6, 7, 4, 5, 2, 3, 1, 0)), False)
        self.assertIs(is_forward((0,) * 10, tuple(range(10))), True)
        self.assertIs(is_forward((0, 1), (1, 0)), False)
        self.assertIs(is_forward(order=(1, 0), kinds=(1, 0)), True)

    def test_last_order(self):
        for kinds in all_kinds(5, 3):
            order = last_order(kinds)
            self.assertIs(type(order), tuple)
            self.assertEqual(sorted(order), list(range(len(kinds))))
            self.assertEqual([(kinds[i], i) for i in order], sorted((kinds[i], i) for i in range(len(kinds))))

    def test_last_order_has_no_passing_left(self):
        for kinds in all_kinds(5, 3):
            order = last_order(kinds)
            self.assertIs(is_forward(kinds, order), True)
            self.assertTrue(all(kinds[i] <= kinds[j] for i, j in zip(order, order[1:])))

    def test_last_order_written_out(self):
        self.assertEqual(last_order(()), ())
        self.assertEqual(last_order((3,)), (0,))
        self.assertEqual(last_order((2, 0, 2, 1, 0)), (1, 4, 3, 0, 2))
        self.assertEqual(last_order((4, 3, 2, 1, 0, 4, 3, 2, 1, 0)), (4, 9, 3, 8, 2, 7, 1, 6, 0, 5))
        self.assertEqual(last_order(kinds=(1, 1, 0)), (2, 0, 1))


class NormalWord(unittest.TestCase):
    def refused(self, order, at):
        for _ in range(2):
            with self.assertRaises(NoOrder) as caught:
                normal_word(order)
            self.assertEqual(caught.exception.at, at)
            self.assertIs(type(caught.exception.at), int)

    def test_leads_to_its_order_by_as_many_letters_as_passed(self):
        for order in short_orders() + list(LONG_ORDERS):
            word = normal_word(order)
            self.assertIs(type(word), tuple)
            self.assertEqual(swaps(word, len(order))[0], order)
            self.assertEqual(len(word), len(pairs_passed(order)))

    def test_falling_runs_of_rising_walkers(self):
        for order in short_orders() + list(LONG_ORDERS):
            due = []
            for m in range(1, len(order)):
                passed = sum(1 for i in order[order.index(m):] if i < m)
                due += [m - step for step in range(1, passed + 1)]
            self.assertEqual(normal_word(order), tuple(due))

    def test_forward_where_the_order_is(self):
        for kinds in all_kinds(4, 3):
            for order in forward_words(kinds):
                self.assertEqual(order_behind(kinds, normal_word(order)), order)

    def test_written_out(self):
        self.assertEqual(normal_word(()), ())
        self.assertEqual(normal_word((0,)), ())
        self.assertEqual(normal_word((1, 0)), (0,))
        self.assertEqual(normal_word((2, 1, 0)), (0, 1, 0))
        self.assertEqual(normal_word((2, 0, 1)), (1, 0))
        self.assertEqual(normal_word((1, 2, 0)), (0, 1))
        self.assertEqual(normal_word((3, 1, 0, 2)), (0, 2, 1, 0))
        self.assertEqual(normal_word(order=(3, 2, 1, 0)), (0, 1, 0, 2, 1, 0))

    def test_numbers_that_are_not_there(self):
        for many in range(1, 11):
            order = tuple(reversed(range(many)))
            for at in range(many):
                for number in (-1, -many, -GREAT, many, many + 1, GREAT):
                    self.refused(swapped(order, at, number), at)

    def test_numbers_that_stand_earlier(self):
        for order in ((0, 1), (2, 0, 1), (3, 1, 0, 2, 4), LONG_ORDERS[-1]):
            for at in range(1, len(order)):
                for earlier in range(at):
                    self.refused(swapped(order, at, order[earlier]), at)

    def test_the_first_of_two(self):
        self.refused((0, 0, 5), 1)
        self.refused((0, 5, 0), 1)
        self.refused((-1, 0, 0), 0)
        self.refused((1, 1, 1), 1)
        self.refused((2, 1, 2, 9), 2)
        self.refused((1,), 0)
        self.refused((GREAT, GREAT), 0)


class FreeWords(unittest.TestCase):
    def test_free_just_where_kinds_are_unlike(self):
        for kinds in all_kinds(4, 2):
            for word in itertools.product(range(max(0, len(kinds) - 1)), repeat=4):
                try:
                    free_order(kinds, word)
                    told = True
                except NoPassing:
                    told = False
                self.assertEqual(told, is_free(kinds, word))


if __name__ == "__main__":
    unittest.main()
