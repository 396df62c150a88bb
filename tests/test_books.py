"""Books looked at, asked for a pair, told with another pair."""

import unittest

from wherefrom.books import look_book, pair_at, with_pair
from wherefrom.errors import NoBook
from samples import GREAT, PACES, all_mixed, book_of, mixed_book, swapped, two_kinds

NO_TUPLES = (None, True, False, 0, 1, -1, 3, GREAT, "", "abc", "form")
NO_NUMBERS = (None, True, False, "", "0", "abc", (), (0,), (0, 1), (None, (1,)))


class LookCase(unittest.TestCase):
    def refused(self, thing, word, at):
        for _ in range(2):
            with self.assertRaises(NoBook) as caught:
                look_book(thing)
            self.assertEqual((caught.exception.word, caught.exception.at), (word, at))
            self.assertIs(type(caught.exception.at), int)


def with_table(book, k, table):
    return (book[0], book[1], swapped(book[2], k, table))


def with_thing(book, k, n, thing):
    """The book with anything in place of the pair number n of table k."""
    return with_table(book, k, swapped(book[2][k], n, thing))


class LetBy(LookCase):
    def test_books_of_all_sizes(self):
        for book in all_mixed():
            self.assertIs(look_book(book), True)

    def test_by_name(self):
        self.assertIs(look_book(book=mixed_book((0, 1), 2)), True)

    def test_one_kind_has_no_tables(self):
        for pace in (-1000, -999, 0, 999, 1000):
            for sorts in range(1, 7):
                self.assertIs(look_book(((pace,), sorts, ())), True)

    def test_least_and_greatest_paces(self):
        for paces in ((-1000, -999, -998, -997, -996), (996, 997, 998, 999, 1000), (-1000, 1000)):
            self.assertIs(look_book(mixed_book(paces, 2)), True)

    def test_least_and_greatest_sorts_in_pairs(self):
        for sorts in range(1, 7):
            for pair in ((0, 0), (0, sorts - 1), (sorts - 1, 0), (sorts - 1, sorts - 1)):
                self.assertIs(look_book(book_of((1, 2, 3), sorts, lambda u, v, a, b: pair)), True)

    def test_asked_again_it_is_told_the_same(self):
        book = mixed_book((0, 1, 2), 3)
        self.assertIs(look_book(book), True)
        self.refused(None, "form", 0)
        self.assertIs(look_book(book), True)
        self.assertEqual(book, mixed_book((0, 1, 2), 3))


class Form(LookCase):
    def test_no_tuple(self):
        for thing in NO_TUPLES:
            self.refused(thing, "form", 0)

    def test_another_count_of_things(self):
        book = mixed_book((0, 1), 2)
        for thing in ((), book[:1], book[:2], book + (0,), book + ((),), (book,), (book, book), (book,) * 4):
            self.refused(thing, "form", 0)

    def test_ten_tuples_within_one_another(self):
        thing = None
        for _ in range(10):
            thing = (thing,)
        self.refused(thing, "form", 0)
        deep = ()
        for _ in range(8):
            deep = (deep, deep)
        self.refused((deep, deep, deep), "paces", 0)
        self.refused(((0,), deep, ()), "sorts", 0)
        self.refused(((0, 1), 1, (deep,)), "table", 0)
        self.refused(((0, 1), 1, ((deep,),)), "pair", 0)


class Paces(LookCase):
    def test_no_tuple(self):
        for thing in NO_TUPLES:
            self.refused((thing, 1, ()), "paces", 0)

    def test_too_few_and_too_many(self):
        self.refused(((), 1, ()), "paces", 0)
        for many in (6, 7, 20):
            tables = (((0, 0),),) * (many * (many - 1) // 2)
            self.refused((tuple(range(many)), 1, tables), "paces", 0)
        self.refused(((0, 1, 2, 2, None, 5), 1, ()), "paces", 0)

    def test_no_whole_number_at_each_place(self):
        for paces in PACES:
            book = mixed_book(paces, 2)
            for k in range(len(paces)):
                for thing in NO_NUMBERS:
                    self.refused((swapped(paces, k, thing),) + book[1:], "paces", k)

    def test_a_truth_that_would_rise(self):
        self.refused(((False, 2), 1, (((0, 0),),)), "paces", 0)
        self.refused(((-1, True, 2), 1, (((0, 0),),) * 3), "paces", 1)
        self.refused(((-1, 0, True), 1, (((0, 0),),) * 3), "paces", 2)

    def test_beyond_the_bounds(self):
        for paces in PACES:
            book = mixed_book(paces, 2)
            for k in range(len(paces)):
                for pace in (-1001, -GREAT, 1001, GREAT):
                    self.refused((swapped(paces, k, pace),) + book[1:], "paces", k)

    def test_beyond_the_bounds_though_rising(self):
        self.refused(((-1001, 0), 1, (((0, 0),),)), "paces", 0)
        self.refused(((999, 1001), 1, (((0, 0),),)), "paces", 1)
        self.refused(((1000, 1001), 1, (((0, 0),),)), "paces", 1)
        self.refused(((0, 1, 2, 3, 1001), 1, (((0, 0),),) * 10), "paces", 4)

    def test_not_above_the_one_earlier(self):
        for paces in PACES:
            book = mixed_book(paces, 2)
            for k in range(1, len(paces)):
                for pace in (paces[k - 1], max(-1000, paces[k - 1] - 1), -1000):
                    self.refused((swapped(paces, k, pace),) + book[1:], "paces", k)

    def test_the_one_earlier_counts_not_the_first(self):
        self.refused(((0, 5, 3), 1, (((0, 0),),) * 3), "paces", 2)
        self.refused(((5, 3, 9), 1, (((0, 0),),) * 3), "paces", 1)


class Sorts(LookCase):
    def test_no_whole_number(self):
        for paces in PACES:
            book = mixed_book(paces, 1)
            for thing in NO_NUMBERS:
                self.refused((book[0], thing, book[2]), "sorts", 0)

    def test_beyond_the_bounds(self):
        for sorts in (0, -1, 7, 8, GREAT, -GREAT):
            self.refused(((0,), sorts, ()), "sorts", 0)
        self.refused(((0, 1), 0, ((),)), "sorts", 0)
        self.refused(((0, 1), 7, (((0, 0),) * 49,)), "sorts", 0)
        self.refused(((0, 1), -1, (((0, 0),),)), "sorts", 0)


class Tables(LookCase):
    def test_no_tuple(self):
        for paces in PACES:
            for thing in NO_TUPLES:
                self.refused((paces, 2, thing), "tables", 0)

    def test_too_few_and_too_many(self):
        for book in all_mixed():
            paces, sorts, tables = book
            table = ((0, 0),) * (sorts * sorts)
            self.refused((paces, sorts, tables + (table,)), "tables", 0)
            self.refused((paces, sorts, tables * 2 + (table,)), "tables", 0)
            if tables:
                self.refused((paces, sorts, tables[1:]), "tables", 0)
                self.refused((paces, sorts, ()), "tables", 0)

    def test_each_table(self):
        for paces in PACES:
            for sorts in (1, 2, 3):
                book = mixed_book(paces, sorts)
                for k, table in enumerate(book[2]):
                    for thing in NO_TUPLES + ((), table[1:], table + ((0, 0),), table * 2, (table,) * 2):
                        self.refused(with_table(book, k, thing), "table", k)


class Pairs(LookCase):
    def books(self):
        return [mixed_book(paces, sorts) for paces in PACES[3:] for sorts in (1, 2, 6)]

    def test_no_pairs(self):
        things = NO_TUPLES + ((), (0,), (0, 0, 0), ((0, 0),), ((0, 0), (0, 0)), ((0,), 0), (0, (0,)))
        for book in self.books():
            for place, (k, n) in self.places(book):
                for thing in things:
                    self.refused(with_thing(book, k, n, thing), "pair", place)

    def places(self, book):
        """Each pair's number, as the refusal tells it, with its table and place there."""
        found = []
        for k, table in enumerate(book[2]):
            for n in range(len(table)):
                found.append((len(found), (k, n)))
        return found

    def test_no_sorts_at_each_side(self):
        for book in self.books():
            sorts = book[1]
            for place, (k, n) in self.places(book):
                for worth in (sorts, -1, GREAT, -GREAT, True, False, None, "0", ()):
                    self.refused(with_thing(book, k, n, (worth, 0)), "pair", place)
                    self.refused(with_thing(book, k, n, (0, worth)), "pair", place)


class FirstOfTwo(LookCase):
    """Of two things amiss the one told first in point 4 is refused."""

    book = mixed_book((0, 1, 2), 2)

    def test_form_before_all(self):
        self.refused((None, None), "form", 0)
        self.refused(((1, 0), 0, None, None), "form", 0)

    def test_paces_before_sorts_and_tables(self):
        self.refused(((), 0, None), "paces", 0)
        self.refused(((0, 0), None, self.book[2]), "paces", 1)
        self.refused(((0, 1, 1), 2, ()), "paces", 2)

    def test_first_pace(self):
        self.refused(((0, None, True), 2, self.book[2]), "paces", 1)
        self.refused(((0, 0, 0), 2, self.book[2]), "paces", 1)
        self.refused(((1001, 0, 1), 2, self.book[2]), "paces", 0)
        self.refused(((None, -1001, 1), 2, self.book[2]), "paces", 0)

    def test_sorts_before_tables(self):
        self.refused(((0, 1), 7, None), "sorts", 0)
        self.refused(((0, 1, 2), True, ()), "sorts", 0)
        self.refused(((0, 1), 0, ((None,),)), "sorts", 0)

    def test_tables_before_a_table(self):
        self.refused(((0, 1, 2), 2, (None, None)), "tables", 0)
        self.refused(((0, 1), 2, (self.book[2][0], None)), "tables", 0)

    def test_table_by_table(self):
        bad_pair = swapped(self.book[2][0], 3, (2, 0))
        self.refused(((0, 1, 2), 2, (bad_pair, None, None)), "pair", 3)
        self.refused(((0, 1, 2), 2, (self.book[2][0], None, bad_pair)), "table", 1)
        self.refused(((0, 1, 2), 2, (None, bad_pair, None)), "table", 0)
        self.refused(((0, 1, 2), 2, (self.book[2][0], bad_pair, None)), "pair", 7)

    def test_a_table_before_its_pairs(self):
        self.refused(with_table(self.book, 1, (None, (0, 0), (0, 0))), "table", 1)
        self.refused(with_table(self.book, 2, (None,) * 5), "table", 2)

    def test_first_pair(self):
        table = swapped(swapped(self.book[2][2], 1, (0, 2)), 2, None)
        self.refused(with_table(self.book, 2, table), "pair", 9)


class PairAt(unittest.TestCase):
    def test_each_place(self):
        for book in all_mixed():
            paces, sorts, tables = book
            found = [
                pair_at(book, u, v, a, b)
                for u, v in two_kinds(len(paces)) for a in range(sorts) for b in range(sorts)
            ]
            self.assertEqual(found, [pair for table in tables for pair in table])

    def test_places_are_told_apart(self):
        marks = book_of((0, 1, 2, 3), 6, lambda u, v, a, b: (a, b))
        self.assertEqual(pair_at(marks, 3, 1, 4, 2), (4, 2))
        kinds = book_of((0, 1, 2, 3, 4), 6, lambda u, v, a, b: (u, v))
        for u, v in two_kinds(5):
            self.assertEqual(pair_at(kinds, u, v, 5, 0), (u, v))

    def test_by_name(self):
        book = book_of((0, 1, 2), 3, lambda u, v, a, b: (a, b))
        self.assertEqual(pair_at(b=2, a=1, v=0, u=2, book=book), (1, 2))


class WithPair(unittest.TestCase):
    def test_just_one_pair_is_another(self):
        for book in (mixed_book((0, 1), 1), mixed_book((0, 2, 5), 3), mixed_book((0, 2, 5, 9, 10), 2)):
            paces, sorts, _ = book
            places = [(u, v, a, b) for u, v in two_kinds(len(paces)) for a in range(sorts) for b in range(sorts)]
            for place in places:
                for pair in ((0, 0), (sorts - 1, 0), (0, sorts - 1)):
                    self.one_change(book, place, pair)

    def one_change(self, book, place, pair):
        kept = pair_at(book, *place)
        before = repr(book)
        new = with_pair(book, *place, pair)
        due = book_of(book[0], book[1], lambda *at: pair if at == place else pair_at(book, *at))
        self.assertEqual(new, due)
        self.assertIs(look_book(new), True)
        self.assertEqual(repr(book), before)
        self.assertEqual(with_pair(new, *place, kept), book)
        self.assertEqual(with_pair(book, *place, pair), new)

    def test_by_name(self):
        book = mixed_book((0, 1, 2), 3)
        new = with_pair(pair=(2, 1), b=2, a=0, v=1, u=2, book=book)
        self.assertEqual(new, with_pair(book, 2, 1, 0, 2, (2, 1)))
        self.assertEqual(pair_at(new, 2, 1, 0, 2), (2, 1))


if __name__ == "__main__":
    unittest.main()
