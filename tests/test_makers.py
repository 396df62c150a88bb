"""Books made by a rule, out of two books, or by new names of burdens."""

import itertools
import unittest

from wherefrom.books import look_book, pair_at
from wherefrom.errors import NoBook
from wherefrom.makers import both_books, folding, keeping, renamed, sorting, staying, turning
from samples import PACES, all_mixed, book_of, mixed_book, two_kinds


def rest(number, sorts):
    """The rest of a number by sorts, from 0 on, without Python's own sign for it."""
    while number < 0:
        number += sorts
    while number >= sorts:
        number -= sorts
    return number


RULES = (
    (keeping, lambda a, b, sorts: (b, a)),
    (staying, lambda a, b, sorts: (a, b)),
    (sorting, lambda a, b, sorts: (a, b) if a < b else (b, a)),
    (folding, lambda a, b, sorts: (b, rest(b + b - a, sorts))),
)


class ByRule(unittest.TestCase):
    def test_each_pair(self):
        for maker, rule in RULES:
            for paces in PACES:
                for sorts in range(1, 7):
                    with self.subTest(maker=maker.__name__, paces=paces, sorts=sorts):
                        book = maker(paces, sorts=sorts)
                        self.assertEqual(book, book_of(paces, sorts, lambda u, v, a, b: rule(a, b, sorts)))
                        self.assertIs(look_book(book), True)
                        self.assertEqual(maker(paces, sorts=sorts), book)

    def test_written_out(self):
        self.assertEqual(keeping((0, 1), sorts=2), ((0, 1), 2, (((0, 0), (1, 0), (0, 1), (1, 1)),)))
        self.assertEqual(staying((0, 1), sorts=2), ((0, 1), 2, (((0, 0), (0, 1), (1, 0), (1, 1)),)))
        self.assertEqual(sorting((0, 1), sorts=2), ((0, 1), 2, (((0, 0), (0, 1), (0, 1), (1, 1)),)))
        fold = ((0, 0), (1, 2), (2, 1), (0, 2), (1, 1), (2, 0), (0, 1), (1, 0), (2, 2))
        self.assertEqual(folding((0, 1), sorts=3), ((0, 1), 3, (fold,)))

    def test_one_kind(self):
        for maker, _ in RULES:
            self.assertEqual(maker((4,), sorts=6), ((4,), 6, ()))

    def test_by_name(self):
        for maker, _ in RULES:
            self.assertEqual(maker(sorts=3, paces=(1, 2)), maker((1, 2), sorts=3))

    def test_sorts_by_name_alone(self):
        for maker, _ in RULES:
            with self.assertRaises(TypeError):
                maker((1, 2), 3)
            with self.assertRaises(TypeError):
                maker((1, 2))


class Turning(unittest.TestCase):
    def turned(self, paces, steps, sorts):
        due = dict(zip(two_kinds(len(paces)), steps))

        def pair_of(u, v, a, b):
            d, e = due[u, v]
            return (rest(b + e, sorts), rest(a + d, sorts))

        book = turning(paces, steps, sorts=sorts)
        self.assertEqual(book, book_of(paces, sorts, pair_of))
        self.assertIs(look_book(book), True)

    def test_unlike_steps_for_each_table(self):
        worths = (0, 1, -1, 5, -7, 1000, -1000, 2, -2, 999, -999, 13)
        for paces in PACES:
            for sorts in range(1, 7):
                many = len(two_kinds(len(paces)))
                self.turned(paces, tuple((worths[k], worths[k + 1]) for k in range(many)), sorts)
                self.turned(paces, tuple((worths[k + 2], worths[-k]) for k in range(many)), sorts)

    def test_all_steps(self):
        for sorts in (1, 2, 3, 6):
            for step in range(-1000, 1001):
                self.turned((0, 1), ((step, -step // 3),), sorts)

    def test_written_out(self):
        self.assertEqual(turning((0, 1), ((1, 0),), sorts=2), ((0, 1), 2, (((0, 1), (1, 1), (0, 0), (1, 0)),)))
        self.assertEqual(turning((0, 1), ((0, -1),), sorts=2), ((0, 1), 2, (((1, 0), (0, 0), (1, 1), (0, 1)),)))

    def test_steps_of_nought_keep(self):
        self.assertEqual(turning((0, 1, 2), ((0, 0),) * 3, sorts=4), keeping((0, 1, 2), sorts=4))

    def test_one_kind(self):
        self.assertEqual(turning((4,), (), sorts=5), ((4,), 5, ()))

    def test_by_name(self):
        book = turning((0, 1), ((3, 1),), sorts=4)
        self.assertEqual(turning(sorts=4, steps=((3, 1),), paces=(0, 1)), book)
        with self.assertRaises(TypeError):
            turning((0, 1), ((3, 1),), 4)


class BothBooks(unittest.TestCase):
    def test_each_pair(self):
        for paces in PACES:
            for sorts, other_sorts in itertools.product(range(1, 7), repeat=2):
                if sorts * other_sorts <= 6:
                    self.side_by_side(mixed_book(paces, sorts, 3), mixed_book(paces, other_sorts, 8))

    def side_by_side(self, one, other):
        before = repr((one, other))
        both = both_books(one, other)
        many = other[1]
        self.assertEqual((both[0], both[1]), (one[0], one[1] * many))
        self.assertIs(look_book(both), True)
        for u, v in two_kinds(len(one[0])):
            for a, b in itertools.product(range(one[1]), repeat=2):
                for x, y in itertools.product(range(many), repeat=2):
                    c, d = pair_at(one, u, v, a, b)
                    p, q = pair_at(other, u, v, x, y)
                    found = pair_at(both, u, v, a * many + x, b * many + y)
                    self.assertEqual(found, (c * many + p, d * many + q))
        self.assertEqual(repr((one, other)), before)
        self.assertEqual(both_books(one, other), both)

    def test_written_out(self):
        both = both_books(staying((0, 1), sorts=2), keeping((0, 1), sorts=2))
        self.assertEqual(pair_at(both, 1, 0, 1, 2), (0, 3))
        self.assertEqual(pair_at(both, 1, 0, 2, 1), (3, 0))

    def test_one_sort_beside_changes_nothing(self):
        for book in all_mixed():
            single = mixed_book(book[0], 1)
            self.assertEqual(both_books(book, single), book)
            self.assertEqual(both_books(single, book), book)

    def test_by_name(self):
        one, other = mixed_book((0, 1), 2), mixed_book((0, 1), 3)
        self.assertEqual(both_books(other=other, one=one), both_books(one, other))

    def refused(self, paces, other_paces, k):
        for first, second in ((paces, other_paces), (other_paces, paces)):
            with self.assertRaises(NoBook) as caught:
                both_books(mixed_book(first, 2), mixed_book(second, 3))
            self.assertEqual((caught.exception.word, caught.exception.at), ("paces", k))

    def test_unlike_paces(self):
        self.refused((0,), (1,), 0)
        self.refused((0, 1), (0, 2), 1)
        self.refused((0, 1, 2), (-1, 1, 2), 0)
        self.refused((0, 2, 4), (0, 3, 4), 1)
        self.refused((0, 1, 2, 3, 4), (0, 1, 2, 3, 5), 4)
        self.refused((0, 1, 2, 3, 4), (0, 1, 3, 4, 5), 2)

    def test_a_kind_that_one_lacks(self):
        self.refused((0,), (0, 1), 1)
        self.refused((0, 1), (0, 1, 2, 3), 2)
        self.refused((0, 1, 2, 3), (0, 1, 2, 3, 4), 4)

    def test_unlike_before_lacking(self):
        self.refused((0, 1, 2), (0, 5), 1)
        self.refused((3,), (0, 1, 2), 0)


class Renamed(unittest.TestCase):
    books = [mixed_book(paces, sorts, 2) for paces in PACES for sorts in range(1, 5)]

    def test_each_pair(self):
        for book in self.books:
            for names in itertools.permutations(range(book[1])):
                before = repr(book)
                new = renamed(book, names)
                self.assertIs(look_book(new), True)
                self.assertEqual(new[:2], book[:2])
                for u, v in two_kinds(len(book[0])):
                    for a, b in itertools.product(range(book[1]), repeat=2):
                        c, d = pair_at(book, u, v, a, b)
                        self.assertEqual(pair_at(new, u, v, names[a], names[b]), (names[c], names[d]))
                self.assertEqual(repr(book), before)
                self.assertEqual(renamed(book, names), new)

    def test_one_order_then_another(self):
        for book in self.books:
            for one in itertools.permutations(range(book[1])):
                for other in itertools.permutations(range(book[1])):
                    both = tuple(other[name] for name in one)
                    self.assertEqual(renamed(renamed(book, one), other), renamed(book, both))

    def test_renamed_back(self):
        for sorts in range(1, 7):
            book = mixed_book((0, 3, 4), sorts)
            for names in itertools.permutations(range(sorts)):
                back = tuple(sorted(range(sorts), key=lambda a: names[a]))
                self.assertEqual(renamed(renamed(book, names), back), book)

    def test_written_out(self):
        book = ((0, 1), 3, (((0, 1), (1, 1), (2, 0)) + ((0, 0),) * 6,))
        new = renamed(book, (1, 2, 0))
        self.assertEqual(pair_at(new, 1, 0, 1, 1), (1, 2))
        self.assertEqual(pair_at(new, 1, 0, 1, 2), (2, 2))
        self.assertEqual(pair_at(new, 1, 0, 1, 0), (0, 1))

    def test_by_name(self):
        book = mixed_book((0, 1), 3)
        self.assertEqual(renamed(names=(2, 0, 1), book=book), renamed(book, (2, 0, 1)))


if __name__ == "__main__":
    unittest.main()
