"""Books that go back, free words, and what rows bring the burdens that are borne."""

import itertools
import unittest

from wherefrom.books import pair_at, with_pair
from wherefrom.errors import NoPassing, NoWay
from wherefrom.judging import judge_book
from wherefrom.ledback import led_back, led_freely, look_back, rows_ahead
from wherefrom.makers import both_books, folding, keeping, renamed, sorting, staying, turning
from wherefrom.moves import join_words, word_moved
from wherefrom.roads import row_by
from wherefrom.words import free_order, last_order, normal_word
from followed import follow, forward_words, other_books, some_row, stand_at, ups
from samples import GREAT, book_of, mixed_book, two_kinds

PACES = (-3, 0, 1, 4, 9)
MARKS = mixed_book((-5, 0, 2, 9, 11), 6, 4)


def mixing_book(paces, sorts, seed):
    """A book whose tables are one to one and follow no maker."""
    def pair_of(u, v, a, b):
        mark = a * sorts + b
        step = next(step for step in range(5 + seed + u, 60) if sorts == 1 or step % 2 and step % 3 and step % 5)
        return divmod((mark * step + seed * u + v + 1) % (sorts * sorts), sorts)

    return book_of(paces, sorts, pair_of)


def books_that_go_back(many=5, sorts=6):
    found = []
    for each in range(1, sorts + 1):
        paces = PACES[:many]
        found += [keeping(paces, sorts=each), staying(paces, sorts=each), folding(paces, sorts=each)]
        found.append(turning(paces, ups(many, each), sorts=each))
        found += [mixing_book(paces, each, seed) for seed in range(3)]
    return found


def burdens_in(row):
    return tuple(burden for _, burden in row)


class LookBack(unittest.TestCase):
    def refused(self, u, v, book):
        with self.assertRaises(NoWay) as caught:
            look_back(book)
        self.assertEqual((caught.exception.u, caught.exception.v), (u, v))

    def test_books_that_go_back(self):
        for many in range(1, 6):
            for book in books_that_go_back(many):
                self.assertIs(look_back(book), True)
        both = both_books(keeping(PACES, sorts=2), folding(PACES, sorts=3))
        self.assertIs(look_back(both), True)
        self.assertIs(look_back(renamed(folding(PACES, sorts=3), (2, 0, 1))), True)
        self.assertIs(look_back(book=sorting(PACES, sorts=1)), True)

    def test_sorting_never_does(self):
        for sorts in range(2, 7):
            self.refused(1, 0, sorting(PACES, sorts=sorts))
            self.refused(1, 0, sorting((0, 1), sorts=sorts))
            self.assertIs(look_back(sorting((0,), sorts=sorts)), True)

    def test_the_first_table_in_the_told_order(self):
        twos = two_kinds(5)
        book = keeping(PACES, sorts=2)
        for wrong in [[one] for one in twos] + list(itertools.combinations(twos, 2)) + [twos]:
            spoilt = book
            for u, v in wrong:
                spoilt = with_pair(spoilt, u, v, 1, 1, (0, 0))
            self.refused(*wrong[0], spoilt)

    def test_one_pair_twice(self):
        for sorts in (2, 3, 6):
            book = mixing_book((0, 1, 2), sorts, 1)
            for u, v in two_kinds(3):
                for at in range(sorts * sorts):
                    a, b = divmod(at, sorts)
                    other = pair_at(book, u, v, *divmod((at + 1) % (sorts * sorts), sorts))
                    self.refused(u, v, with_pair(book, u, v, a, b, other))


def freely(book, row, word):
    """The row behind a free word, by going through all pairs at each passing back."""
    led = list(row)
    for k in word:
        (u, a), (v, b) = led[k:k + 2]
        if u > v:
            c, d = pair_at(book, u, v, a, b)
        else:
            pairs = itertools.product(range(book[1]), repeat=2)
            (c, d), = [pair for pair in pairs if pair_at(book, v, u, *pair) == (a, b)]
        led[k:k + 2] = (v, c), (u, d)
    return tuple(led)


def free_words(kinds, most):
    """All free words of at most so many letters."""
    found = []
    for many in range(most + 1):
        for word in itertools.product(range(len(kinds) - 1), repeat=many):
            try:
                free_order(kinds, word)
            except NoPassing:
                continue
            found.append(word)
    return found


class LedFreely(unittest.TestCase):
    def refused(self, error, fields, book, row, word):
        with self.assertRaises(error) as caught:
            led_freely(book, row, word)
        self.assertEqual({name: getattr(caught.exception, name) for name in fields}, fields)

    def test_forward_words(self):
        for book in books_that_go_back(5, 3):
            for kinds in ((), (3,), (4, 2), (4, 2, 1), (4, 3, 1, 0), (3, 0, 3, 0), (4, 4, 1, 0)):
                row = tuple((kind, k * 5 % book[1]) for k, kind in enumerate(kinds))
                for words in forward_words(kinds).values():
                    for word in words[:3]:
                        self.assertEqual(led_freely(book, row, word), follow(book, row, word))

    def test_all_free_words(self):
        for book in books_that_go_back(3, 3):
            for kinds in ((0, 1), (2, 0), (0, 1, 2), (2, 1, 0), (1, 2, 0), (0, 2, 0), (1, 1, 2), (0, 2, 1, 0)):
                row = tuple((kind, k * 2 % book[1]) for k, kind in enumerate(kinds))
                for word in free_words(kinds, 4):
                    self.assertEqual(led_freely(book, row, word), freely(book, row, word))

    def test_there_and_back_again(self):
        for book in books_that_go_back():
            for many in (2, 3, 6, 10):
                for seed in range(3):
                    row = some_row(book, many, seed)
                    word = normal_word(last_order(tuple(kind for kind, _ in row)))
                    self.assertEqual(led_freely(book, row, word + word[::-1]), row)
                    last = led_freely(book, row, word)
                    self.assertEqual(led_freely(book, last, word[::-1]), row)
                    if word:
                        self.assertEqual(led_freely(book, row, word[:1] * 60), row)

    def test_written_out(self):
        book = turning((0, 1), ((1, 2),), sorts=5)
        self.assertEqual(led_freely(book, ((1, 3), (0, 4)), (0,)), ((0, 1), (1, 4)))
        self.assertEqual(led_freely(book, ((0, 1), (1, 4)), (0,)), ((1, 3), (0, 4)))
        self.assertEqual(led_freely(word=(), row=(), book=book), ())

    def test_by_a_good_book_the_order_alone_counts(self):
        seen = 0
        for book in books_that_go_back(4, 3):
            if judge_book(book)[0] == "good":
                seen += 1
                for kinds in ((3, 1, 0), (0, 1, 2), (1, 3, 0), (2, 0, 1)):
                    row = tuple((kind, k * 2 % book[1]) for k, kind in enumerate(kinds))
                    by_order = {}
                    for word in free_words(kinds, 6):
                        by_order.setdefault(free_order(kinds, word), set()).add(led_freely(book, row, word))
                    self.assertEqual(len(by_order), 6)
                    self.assertEqual({len(rows) for rows in by_order.values()}, {1})
        self.assertGreater(seen, 10)

    def test_no_move_between_free_words_changes_what_is_borne(self):
        kinds = (1, 3, 0, 2)
        words = free_words(kinds, 4)
        for book in (folding(PACES, sorts=5), turning(PACES, ups(5, 2), sorts=6)):
            row = tuple((kind, k * 2 % book[1]) for k, kind in enumerate(kinds))
            for one, other in zip(words, words[::-1] + words[:40]):
                if free_order(kinds, one) == free_order(kinds, other):
                    self.moved(book, row, one, join_words(one, other))
            longest = (0, 1, 2, 1, 0, 0, 1, 1, 2, 0)
            normal = normal_word(free_order(kinds, longest))
            self.moved(book, row, longest, join_words(longest, normal))
            self.moved(book, row, normal, join_words(normal, longest))

    def moved(self, book, row, word, moves):
        borne = led_freely(book, row, word)
        for move in moves:
            word = word_moved(word, (move,))
            self.assertEqual(led_freely(book, row, word), borne)

    def test_no_way_then_no_passing(self):
        book = with_pair(keeping(PACES, sorts=2), 3, 1, 0, 0, (1, 1))
        for word in ((), (0,), (-1,), (GREAT,), (1, 1)):
            for row in ((), ((4, 0), (2, 0)), ((4, 0), (2, 0), (0, 1))):
                self.refused(NoWay, {"u": 3, "v": 1}, book, row, word)

    def test_no_passing(self):
        book = folding(PACES, sorts=3)
        row = ((2, 0), (1, 1), (1, 2), (4, 0))
        for k in (-1, -2, -GREAT, 3, 4, GREAT):
            self.refused(NoPassing, {"at": 0}, book, row, (k,))
            self.refused(NoPassing, {"at": 1}, book, row, (0, k))
            self.refused(NoPassing, {"at": 3}, book, row, (2, 0, 0, k, 0))
        self.refused(NoPassing, {"at": 0}, book, row, (1,))
        self.refused(NoPassing, {"at": 2}, book, row, (0, 2, -1))
        self.refused(NoPassing, {"at": 2}, book, ((1, 0), (2, 0), (1, 0)), (0, 0, 2))
        self.refused(NoPassing, {"at": 1}, book, ((1, 0), (2, 0), (1, 0)), (0, 1))
        for few in ((), ((4, 1),)):
            for k in (0, 1, -1):
                self.refused(NoPassing, {"at": 0}, book, few, (k,))

    def test_what_is_told_are_tuples(self):
        told = led_freely(folding(PACES, sorts=3), ((2, 0), (1, 1)), (0, 0, 0))
        self.assertEqual([type(told)] + [type(walker) for walker in told], [tuple] * 3)
        self.assertEqual([type(thing) for walker in told for thing in walker], [int] * 4)


def ahead_slowly(book, kinds, word, burdens):
    """All burdens at the beginning, by going through all there are."""
    return tuple(
        before for before in itertools.product(range(book[1]), repeat=len(kinds))
        if burdens_in(follow(book, tuple(zip(kinds, before)), word)) == burdens
    )


class RowsAhead(unittest.TestCase):
    def asked(self):
        found = []
        for book in other_books(5, 4)[-12:] + [sorting(PACES, sorts=2), folding(PACES, sorts=4), MARKS]:
            for kinds in ((), (4,), (4, 2), (0, 1), (4, 2, 1), (3, 2, 0, 1), (4, 4, 3, 0)):
                if book[1] ** len(kinds) <= 256:
                    words = [words[-1] for words in forward_words(kinds).values()]
                    found += [(book, kinds, word) for word in words[:1] + words[-2:]]
        return found

    def test_against_all_burdens(self):
        counts = set()
        for book, kinds, word in self.asked():
            for burdens in list(itertools.product(range(book[1]), repeat=len(kinds)))[::5]:
                told = rows_ahead(book, kinds, word, burdens)
                self.assertEqual(told, ahead_slowly(book, kinds, word, burdens))
                counts.add(len(told))
        self.assertLess({0, 1, 2, 3}, counts)

    def test_eight_walkers(self):
        book = sorting((0, 1), sorts=2)
        kinds = (1, 1, 1, 1, 0, 0, 0, 0)
        word = normal_word(last_order(kinds))
        for burdens in ((0, 0, 0, 0, 0, 1, 1, 1), (0, 0, 0, 0, 1, 1, 1, 1), (1, 0, 1, 0, 1, 0, 1, 0), (1,) * 8):
            self.assertEqual(rows_ahead(book, kinds, word, burdens), ahead_slowly(book, kinds, word, burdens))

    def test_all_burdens_are_shared_out(self):
        for book, kinds, word in self.asked():
            every = list(itertools.product(range(book[1]), repeat=len(kinds)))
            found = [before for burdens in every for before in rows_ahead(book, kinds, word, burdens)]
            self.assertEqual(sorted(found), every)

    def test_written_out(self):
        book = sorting((0, 1), sorts=2)
        self.assertEqual(rows_ahead(book, (1, 0), (0,), (0, 1)), ((0, 1), (1, 0)))
        self.assertEqual(rows_ahead(book, (1, 0), (0,), (1, 0)), ())
        self.assertEqual(rows_ahead(book, (1, 0), (), (1, 0)), ((1, 0),))
        self.assertEqual(rows_ahead(burdens=(), word=(), kinds=(), book=book), ((),))

    def test_the_first_letter_that_is_not_forward(self):
        for kinds, word, at in (
            ((), (0,), 0), ((1,), (0,), 0), ((2, 1, 0), (2,), 0), ((2, 1, 0), (-1,), 0), ((2, 1, 0), (GREAT,), 0),
            ((2, 1, 0), (0, 0), 1), ((2, 1, 0), (0, 1, 1), 2), ((2, 1, 0), (0, 1, 0, -GREAT), 3), ((0, 1), (0,), 0),
            ((1, 1), (0,), 0), ((2, 1, 0), (1, 0, 1, 0, 9), 3), ((2, 1, 0), (0, 7, 7), 1),
        ):
            for book in (keeping((0, 1, 2), sorts=2), sorting((0, 1, 2), sorts=2)):
                with self.assertRaises(NoPassing) as caught:
                    rows_ahead(book, kinds, word, (1, 0, 1)[:len(kinds)])
                self.assertEqual(caught.exception.at, at)


class LedBack(unittest.TestCase):
    def test_against_all_burdens(self):
        for book in other_books(5, 3)[-9:] + [sorting(PACES, sorts=3), folding(PACES, sorts=3)]:
            for kinds, spots in (
                ((), ()), ((4,), (-4,)), ((4, 2), (0, 3)), ((4, 2, 1), (0, 4, 5)), ((3, 4, 1, 0), (-9, 0, 10, 12)),
                ((4, 2, 1), (-4 * 10 ** 18, 0, 4 * 10 ** 18)),
            ):
                for beat in (0, 1, 2, 7, 10 ** 15):
                    self.each_burdens(book, kinds, spots, beat)

    def each_burdens(self, book, kinds, spots, beat):
        every = list(itertools.product(range(book[1]), repeat=len(kinds)))
        brought = {
            before: burdens_in(stand_at(book, tuple(zip(kinds, before)), spots, beat)[2]) for before in every
        }
        for burdens in every[::4]:
            due = tuple(before for before in every if brought[before] == burdens)
            self.assertEqual(led_back(book, kinds, spots, burdens, beat=beat), due)

    def test_there_and_back(self):
        for book in books_that_go_back(4, 4):
            row = some_row(book, 4, 1)
            kinds = tuple(kind for kind, _ in row)
            for beat in (0, 2, 5, 10 ** 6):
                borne = burdens_in(row_by(book, row, (0, 3, 10, 11), beat=beat))
                self.assertEqual(led_back(book, kinds, (0, 3, 10, 11), borne, beat=beat), (burdens_in(row),))

    def test_by_name(self):
        book = sorting((0, 1), sorts=2)
        told = led_back(beat=1, burdens=(0, 1), spots=(0, 1), kinds=(1, 0), book=book)
        self.assertEqual(told, ((0, 1), (1, 0)))
        with self.assertRaises(TypeError):
            led_back(book, (1, 0), (0, 1), (0, 1), 1)


if __name__ == "__main__":
    unittest.main()
