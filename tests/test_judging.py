"""Books judged good or parted, the ends of rows, and partings."""

import itertools
import unittest

from wherefrom.books import pair_at, with_pair
from wherefrom.judging import both_ways, ends_of, judge_book, parting
from wherefrom.makers import both_books, folding, keeping, renamed, sorting, staying, turning
from wherefrom.words import look_row
from followed import follow, forward_words, good_books, last_from, other_books, some_row, ups
from samples import mixed_book, two_kinds


def burdens_in(row):
    return tuple(burden for _, burden in row)


def threes(book):
    """All threes of kinds and burdens, in the told order."""
    kinds, sorts = range(len(book[0])), range(book[1])
    return [
        ((u, v, w), (a, b, c))
        for u, v, w, a, b, c in itertools.product(kinds, kinds, kinds, sorts, sorts, sorts) if u > v > w
    ]


def judged_slowly(book):
    """What the judging must tell, by going through all threes."""
    for kinds, burdens in threes(book):
        row = tuple(zip(kinds, burdens))
        if follow(book, row, (0, 1, 0)) != follow(book, row, (1, 0, 1)):
            return ("parted", kinds, burdens)
    return ("good", len(threes(book)))


def one_pair_otherwise(book):
    """The book with each pair in its turn otherwise."""
    sorts = book[1]
    found = []
    for u, v in two_kinds(len(book[0])):
        for a, b in itertools.product(range(sorts), repeat=2):
            c, d = pair_at(book, u, v, a, b)
            found.append(with_pair(book, u, v, a, b, ((c + 1) % sorts, d)))
            found.append(with_pair(book, u, v, a, b, (c, (d + 1) % sorts)))
    return found


class BothWays(unittest.TestCase):
    def test_each_three(self):
        for book in good_books(4, 3) + other_books(5, 3):
            for kinds, burdens in threes(book):
                row = tuple(zip(kinds, burdens))
                due = tuple(burdens_in(follow(book, row, word)) for word in ((0, 1, 0), (1, 0, 1)))
                self.assertEqual(both_ways(book, kinds, burdens), due)

    def test_written_out(self):
        # Burdens stay, but where kind 2 with 0 passes kind 1 with 1.
        book = with_pair(staying((0, 1, 2), sorts=2), 2, 1, 0, 1, (0, 0))
        self.assertEqual(both_ways(book, (2, 1, 0), (0, 1, 1)), ((0, 0, 1), (0, 1, 1)))
        self.assertEqual(both_ways(book, (2, 1, 0), (1, 1, 1)), ((1, 1, 1), (1, 1, 1)))

    def test_kinds_of_what_is_told(self):
        told = both_ways(burdens=(0, 1, 0), kinds=(2, 1, 0), book=mixed_book((0, 1, 2), 2))
        self.assertEqual([type(told)] + [type(way) for way in told], [tuple] * 3)
        self.assertEqual([len(way) for way in told], [3, 3])


class JudgeBook(unittest.TestCase):
    def test_makers_books_are_good(self):
        for book in good_books():
            many, sorts = len(book[0]), book[1]
            self.assertEqual(judge_book(book), ("good", many * (many - 1) * (many - 2) // 6 * sorts ** 3))

    def test_how_many_threes(self):
        for many, count in ((1, 0), (2, 0), (3, 1), (4, 4), (5, 10)):
            for sorts in range(1, 7):
                self.assertEqual(judge_book(keeping(tuple(range(many)), sorts=sorts)), ("good", count * sorts ** 3))

    def test_one_and_two_kinds_are_always_good(self):
        for sorts in range(1, 7):
            for seed in range(8):
                self.assertEqual(judge_book(mixed_book((0,), sorts, seed)), ("good", 0))
                self.assertEqual(judge_book(mixed_book((-4, 7), sorts, seed)), ("good", 0))

    def test_one_sort_is_always_good(self):
        for many, count in ((3, 1), (4, 4), (5, 10)):
            self.assertEqual(judge_book(mixed_book(tuple(range(many)), 1)), ("good", count))

    def test_other_books(self):
        for book in other_books():
            self.assertEqual(judge_book(book), judged_slowly(book))

    def test_one_pair_otherwise(self):
        words = set()
        for maker in (keeping, staying, sorting, folding):
            for paces, sorts in (((0, 1, 2), 2), ((0, 1, 2), 3), ((0, 1, 2, 3), 2), ((0, 1, 2, 3, 4), 2)):
                for book in one_pair_otherwise(maker(paces, sorts=sorts)):
                    told = judge_book(book)
                    self.assertEqual(told, judged_slowly(book))
                    words.add(told[0])
        for book in one_pair_otherwise(turning((0, 1, 2), ups(3, 2), sorts=3)):
            self.assertEqual(judge_book(book), judged_slowly(book))
        self.assertEqual(words, {"good", "parted"})

    def test_the_first_kinds_and_burdens(self):
        firsts = set()
        for u, v in two_kinds(5):
            for a, b in itertools.product(range(2), repeat=2):
                book = with_pair(staying((0, 1, 2, 3, 4), sorts=2), u, v, a, b, (a, 1 - b))
                told = judge_book(book)
                self.assertEqual(told, judged_slowly(book))
                firsts.add(told[1:])
        self.assertGreater(len({first[0] for first in firsts}), 3)
        self.assertGreater(len({first[1] for first in firsts}), 3)

    def test_kinds_rise_before_burdens(self):
        # Kinds 3 and 2 part by the least burdens, kinds 1 and 0 by the greatest alone.
        book = with_pair(staying((0, 1, 2, 3), sorts=3), 3, 2, 0, 0, (1, 0))
        self.assertEqual(judge_book(book), ("parted", (3, 2, 0), (0, 0, 0)))
        book = with_pair(book, 1, 0, 2, 2, (0, 0))
        self.assertEqual(judge_book(book), ("parted", (2, 1, 0), (0, 2, 2)))

    def test_two_books_side_by_side(self):
        good = sorting((0, 1, 2), sorts=2)
        parted = with_pair(good, 2, 1, 0, 1, (1, 1))
        self.assertEqual(judge_book(parted)[0], "parted")
        for one, other in itertools.product((good, parted), repeat=2):
            due = "good" if one == other == good else "parted"
            self.assertEqual(judge_book(both_books(one, other))[0], due)

    def test_renamed_as_before(self):
        for book in other_books(3, 3):
            for names in itertools.permutations(range(book[1])):
                self.assertEqual(judge_book(renamed(book, names))[0], judge_book(book)[0])

    def test_by_name_and_again(self):
        book = mixed_book((0, 1, 2), 3)
        self.assertEqual(judge_book(book=book), judge_book(book))
        self.assertEqual(book, mixed_book((0, 1, 2), 3))


class EndsOf(unittest.TestCase):
    def slowly(self, book, row):
        """The ends, by going through all forward words."""
        kinds = tuple(kind for kind, _ in row)
        words = forward_words(kinds)[tuple(sorted(range(len(row)), key=lambda i: kinds[i]))]
        return tuple(sorted({burdens_in(follow(book, row, word)) for word in words}))

    def test_all_rows_of_up_to_three(self):
        books = [mixed_book((0, 1, 2), sorts, seed) for sorts in (2, 3) for seed in range(2)]
        books.append(with_pair(sorting((0, 1, 2), sorts=2), 2, 0, 1, 0, (1, 1)))
        for book in books:
            walkers = list(itertools.product(range(3), range(book[1])))
            for many in range(4):
                for row in itertools.product(walkers, repeat=many):
                    self.assertEqual(ends_of(book, row), self.slowly(book, row))

    def test_rows_of_four(self):
        counts = set()
        for book in other_books(5, 3):
            for kinds in ((3, 2, 1, 0), (2, 2, 1, 0), (2, 1, 0, 0), (2, 1, 1, 0), (1, 2, 0, 1), (0, 0, 0, 0)):
                if max(kinds) < len(book[0]):
                    for seed in range(4):
                        row = tuple((kind, (seed * k + k // 2) % book[1]) for k, kind in enumerate(kinds))
                        ends = ends_of(book, row)
                        self.assertEqual(ends, self.slowly(book, row))
                        counts.add(len(ends))
        self.assertGreater(max(counts), 2)

    def test_just_one_of_a_good_book(self):
        for book in good_books(5, 3):
            for many in range(5):
                for seed in range(4):
                    row = some_row(book, many, seed)
                    self.assertEqual(ends_of(book, row), self.slowly(book, row))
                    self.assertEqual(len(ends_of(book, row)), 1)

    def test_written_out(self):
        book = with_pair(staying((0, 1, 2), sorts=2), 2, 1, 0, 1, (0, 0))
        self.assertEqual(ends_of(book, ()), ((),))
        self.assertEqual(ends_of(book, ((2, 1),)), ((1,),))
        self.assertEqual(ends_of(book, ((0, 1), (2, 0))), ((1, 0),))
        self.assertEqual(ends_of(row=((2, 0), (1, 1), (0, 1)), book=book), ((0, 0, 1), (0, 1, 1)))


class Parting(unittest.TestCase):
    def held(self, book):
        """Hold the parting of a book against what the document says of it."""
        told = parting(book)
        self.assertEqual(told, parting(book=book))
        if judge_book(book)[0] == "good":
            self.assertIsNone(told)
            return
        row, spots, others = told
        self.assertEqual([type(thing) for thing in (told, row, spots, others)], [tuple] * 4)
        self.assertEqual(len(row), 3)
        self.assertIs(look_row(book, row), True)
        for setting in (spots, others):
            self.assertEqual([type(spot) for spot in setting], [int] * 3)
            self.assertTrue(0 <= setting[0] < setting[1] < setting[2] <= 10000, setting)
        self.assertNotEqual(last_from(book, row, spots), last_from(book, row, others))

    def test_none_of_good_books(self):
        for book in good_books():
            self.assertIsNone(parting(book))

    def test_other_books(self):
        for book in other_books():
            self.held(book)

    def test_one_pair_otherwise(self):
        for maker in (keeping, staying, sorting, folding):
            for book in one_pair_otherwise(maker((0, 1, 2), sorts=3)):
                self.held(book)
            for book in one_pair_otherwise(maker((-9, 0, 4, 1000), sorts=2)):
                self.held(book)

    def test_paces_near_and_far(self):
        ends = (-1000, -999, -998, -1, 0, 1, 998, 999, 1000)
        for paces in itertools.combinations(ends, 3):
            book = mixed_book(paces, 2, 1)
            self.assertEqual(judge_book(book)[0], "parted")
            self.held(book)
        for paces in ((-1000, -999, -998, 999, 1000), (-1000, -2, -1, 0, 1000), (996, 997, 998, 999, 1000)):
            for u, v in two_kinds(5):
                self.held(with_pair(staying(paces, sorts=2), u, v, 0, 1, (0, 0)))

    def test_two_walkers_never_part(self):
        for book in other_books(2):
            self.assertIsNone(parting(book))


if __name__ == "__main__":
    unittest.main()
