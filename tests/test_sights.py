"""What beginnings a row of sights lets be, and the fewest sights that clash."""

import itertools
import random
import unittest

from wherefrom.books import with_pair
from wherefrom.judging import parting
from wherefrom.makers import folding, keeping, sorting, staying
from wherefrom.roads import row_by
from wherefrom.sights import beginnings, clash_of
from followed import other_books, stand_at
from samples import mixed_book

FAR = 4 * 10 ** 18
LONG = 10 ** 15
PACES = (-3, 0, 1, 4, 9)

SETTINGS = (
    ((), ()),
    ((3,), (-7,)),
    ((4, 2), (0, 3)),
    ((0, 4), (0, 3)),
    ((4, 2, 1), (0, 4, 5)),
    ((3, 4, 0), (-FAR, 0, FAR)),
    ((3, 4, 1, 0), (-9, 0, 10, 12)),
)


def every(book, kinds):
    return list(itertools.product(range(book[1]), repeat=len(kinds)))


def met_slowly(book, kinds, spots, sights):
    """All beginnings that meet all sights, each walked by itself."""
    def borne(burdens, beat):
        return stand_at(book, tuple(zip(kinds, burdens)), spots, beat)[2]

    return tuple(
        burdens for burdens in every(book, kinds)
        if all(borne(burdens, beat)[place][1] == burden for beat, place, burden in sights)
    )


def clash_slowly(book, kinds, spots, sights):
    """The clash, by going through all choices of sights."""
    if met_slowly(book, kinds, spots, sights):
        return None
    for many in range(1, len(sights) + 1):
        for numbers in itertools.combinations(range(len(sights)), many):
            if not met_slowly(book, kinds, spots, [sights[number] for number in numbers]):
                return numbers


def some_sights(dice, book, kinds, many):
    return [
        (dice.choice((0, 1, 2, 3, 10, LONG)), dice.randrange(len(kinds)), dice.randrange(book[1]))
        for _ in range(many if kinds else 0)
    ]


def asked():
    """Books, settings out and sights, of which some clash."""
    dice = random.Random(34)
    books = other_books(5, 3)[-9:] + [sorting(PACES, sorts=3), folding(PACES, sorts=2), staying(PACES, sorts=2)]
    for book in books:
        for kinds, spots in SETTINGS:
            if book[1] ** len(kinds) <= 81:
                for many in (1, 2, 3, 5):
                    yield book, kinds, spots, some_sights(dice, book, kinds, many)


class Beginnings(unittest.TestCase):
    def test_no_sights(self):
        for book in (mixed_book(PACES, 3), sorting(PACES, sorts=4)):
            for kinds, spots in SETTINGS:
                for none in ((), []):
                    self.assertEqual(beginnings(book, kinds, spots, none), tuple(every(book, kinds)))

    def test_against_all_burdens(self):
        counts = set()
        for book, kinds, spots, sights in asked():
            told = beginnings(book, kinds, spots, sights)
            self.assertEqual(told, met_slowly(book, kinds, spots, sights))
            self.assertEqual(beginnings(book, kinds, spots, tuple(sights)), told)
            counts.add(len(told))
        self.assertLess({0, 1, 2, 3}, counts)

    def test_what_was_begun_with_is_among_them(self):
        book = sorting((0, 1), sorts=2)
        kinds, spots = (1, 0, 1, 0, 1, 0, 1, 0), (0, 1, 2, 7, 9, 20, 31, 10 ** 17)
        for burdens in ((0, 1) * 4, (1, 1, 0, 0) * 2, (1,) * 8):
            row = tuple(zip(kinds, burdens))
            sights = [
                (beat, place, row_by(book, row, spots, beat=beat)[place][1])
                for beat, place in ((0, 0), (1, 1), (1, 7), (2, 3), (9, 4), (40, 6), (LONG, 0), (LONG, 5))
            ]
            told = beginnings(book, kinds, spots, sights)
            self.assertIn(burdens, told)
            self.assertEqual(list(told), sorted(set(told)))
            self.assertIsNone(clash_of(book, kinds, spots, sights))

    def test_written_out(self):
        book = sorting((0, 1), sorts=2)
        self.assertEqual(beginnings(book, (1, 0), (0, 5), [(5, 0, 0)]), ((0, 0), (0, 1), (1, 0)))
        self.assertEqual(beginnings(book, (1, 0), (0, 5), [(4, 0, 0)]), ((0, 0), (0, 1)))
        self.assertEqual(beginnings(book, (1, 0), (0, 5), [(4, 0, 0), (LONG, 1, 1)]), ((0, 1),))
        self.assertEqual(beginnings(book, (1, 0), (0, 5), [(5, 0, 1), (5, 1, 0)]), ())
        self.assertEqual(beginnings(sights=((0, 0, 1),), spots=(3,), kinds=(1,), book=book), ((1,),))

    def test_at_a_place_that_is_not_there_nothing_is_borne(self):
        book = keeping((0, 1), sorts=2)
        for kinds, spots in (((), ()), ((1,), (3,)), ((1, 0), (0, 5))):
            for place in (-1, -2, len(kinds), len(kinds) + 1):
                self.assertEqual(beginnings(book, kinds, spots, [(0, place, 0)]), ())
                self.assertEqual(clash_of(book, kinds, spots, [(0, place, 0)]), (0,))

    def test_the_list_stays(self):
        sights = [(0, 0, 1), (LONG, 1, 0)]
        for teller in (beginnings, clash_of):
            first = teller(keeping((0, 1), sorts=2), (1, 0), (0, 5), sights)
            self.assertEqual(sights, [(0, 0, 1), (LONG, 1, 0)])
            self.assertEqual(teller(keeping((0, 1), sorts=2), (1, 0), (0, 5), sights), first)

    def test_a_parting_is_seen(self):
        book = with_pair(sorting((1, 2, 5), sorts=3), 2, 0, 2, 1, (2, 2))
        row, spots, others = parting(book)
        kinds, burdens = tuple(kind for kind, _ in row), tuple(burden for _, burden in row)
        for where in (spots, others):
            last = row_by(book, row, where, beat=10 ** 6)
            sights = [(10 ** 6, place, last[place][1]) for place in range(3)]
            self.assertIn(burdens, beginnings(book, kinds, where, sights))
        self.assertNotIn(burdens, beginnings(book, kinds, spots, sights))


class ClashOf(unittest.TestCase):
    def test_against_all_choices(self):
        counts = set()
        for book, kinds, spots, sights in asked():
            told = clash_of(book, kinds, spots, sights)
            self.assertEqual(told, clash_slowly(book, kinds, spots, sights))
            self.assertEqual(clash_of(book, kinds, spots, tuple(sights)), told)
            counts.add(len(told) if told is not None else None)
        self.assertLess({None, 1, 2}, counts)

    def test_eight_sights(self):
        dice = random.Random(35)
        book = mixed_book((0, 1, 3), 2, 3)
        kinds, spots = (2, 1, 0, 2, 0), (0, 3, 5, 6, 20)
        for _ in range(20):
            sights = some_sights(dice, book, kinds, 8)
            self.assertEqual(clash_of(book, kinds, spots, sights), clash_slowly(book, kinds, spots, sights))

    def test_no_clash(self):
        book = sorting((0, 1), sorts=2)
        self.assertIsNone(clash_of(book, (1, 0), (0, 5), ()))
        self.assertIsNone(clash_of(book, (1, 0), (0, 5), []))
        self.assertIsNone(clash_of(book, (), (), ()))
        self.assertIsNone(clash_of(book, (1, 0), (0, 5), [(0, 0, 1)] * 8))

    def test_one_by_one(self):
        # Behind the passing none ever bears 1 at the rear place.
        book = with_pair(sorting((0, 1), sorts=2), 1, 0, 1, 1, (0, 1))
        self.assertEqual(clash_of(book, (1, 0), (0, 5), [(5, 0, 1)]), (0,))
        self.assertEqual(clash_of(book, (1, 0), (0, 5), [(0, 0, 1), (0, 0, 0), (9, 0, 1), (8, 0, 1)]), (2,))

    def test_two_by_two(self):
        book = sorting((0, 1), sorts=2)
        self.assertEqual(clash_of(book, (1, 0), (0, 5), [(5, 0, 1), (5, 1, 0)]), (0, 1))
        sights = [(0, 0, 0), (5, 0, 1), (0, 1, 0), (5, 1, 0)]
        self.assertEqual(clash_of(book, (1, 0), (0, 5), sights), (0, 1))
        self.assertEqual(clash_of(book, (1, 0), (0, 5), sights[::-1]), (0, 2))
        self.assertEqual(clash_of(book, (1, 0), (0, 5), sights[1:]), (0, 1))

    def test_three_by_three(self):
        # Sorted, 1 stays at the fore place where either bore it.
        book = sorting((0, 1), sorts=2)
        sights = [(0, 0, 0), (5, 1, 1), (0, 1, 0)]
        self.assertEqual(clash_of(book, (1, 0), (0, 5), sights), (0, 1, 2))
        for two in itertools.combinations(sights, 2):
            self.assertIsNone(clash_of(book, (1, 0), (0, 5), two))
        padded = [(0, 0, 0), (0, 0, 0), (5, 1, 1), (5, 1, 1), (0, 1, 0)]
        self.assertEqual(clash_of(book, (1, 0), (0, 5), padded), (0, 2, 4))

    def test_four_by_four(self):
        book = sorting((0, 1), sorts=2)
        kinds, spots = (1, 0, 0), (0, 5, 9)
        sights = [(0, 0, 0), (0, 1, 0), (0, 2, 0), (10, 2, 1)]
        self.assertEqual(clash_of(book, kinds, spots, sights), (0, 1, 2, 3))

    def test_by_name_and_kinds_of_what_is_told(self):
        book = sorting((0, 1), sorts=2)
        told = clash_of(sights=((0, 0, 0), (0, 0, 1)), spots=(3,), kinds=(1,), book=book)
        self.assertEqual(told, (0, 1))
        self.assertEqual([type(told), type(told[0])], [tuple, int])


if __name__ == "__main__":
    unittest.main()
