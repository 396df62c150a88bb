"""Pairs that are asked, papers that a book can't be mended, and books mended."""

import itertools
import random
import unittest

from wherefrom.books import look_book, pair_at, with_pair
from wherefrom.judging import both_ways, judge_book, parting
from wherefrom.makers import folding, keeping, sorting, staying, turning
from wherefrom.mending import MOST, mend_book, pairs_asked, unmended_holds
from followed import good_books, other_books, ups
from samples import GREAT, book_of, mixed_book, swapped, two_kinds

PACES = (-3, 0, 1, 4)
NO_PAPERS = (None, True, False, 0, -1, GREAT, "", "paper", (), ((),), ((), ()), ((), (), ()), (None,) * 3, (0, 0, ()))


def random_book(dice, many, sorts):
    return book_of(PACES[:many], sorts, lambda u, v, a, b: (dice.randrange(sorts), dice.randrange(sorts)))


def spoilt(dice, many, sorts, pairs):
    """A good book with some of its pairs otherwise."""
    maker = dice.choice((keeping, staying, sorting, folding))
    book = maker(PACES[:many], sorts=sorts)
    for (u, v), a, b in dice.sample(list(itertools.product(two_kinds(many), range(sorts), range(sorts))), pairs):
        pair = pair_at(book, u, v, a, b)
        while pair == pair_at(book, u, v, a, b):
            pair = (dice.randrange(sorts), dice.randrange(sorts))
        book = with_pair(book, u, v, a, b, pair)
    return book


def asked_slowly(book, kinds, burdens):
    """The pairs asked, written out passing by passing."""
    u, v, w = kinds
    a, b, c = burdens
    found = []

    def ask(upper, lower, rear, fore):
        if (upper, lower, rear, fore) not in found:
            found.append((upper, lower, rear, fore))
        return pair_at(book, upper, lower, rear, fore)

    first, second = ask(u, v, a, b)
    third, _ = ask(u, w, second, c)
    ask(v, w, first, third)
    second, third = ask(v, w, b, c)
    _, second = ask(u, w, a, second)
    ask(u, v, second, third)
    return tuple(found)


def first_parted(book):
    return judge_book(book)[1:]


def paper_slowly(book, most, pick=first_parted):
    """A paper that the book can't be mended by most pairs, by the words of point 41; None where it can."""
    if judge_book(book)[0] == "good":
        return None
    kinds, burdens = pick(book)
    cases = []
    if most:
        for asked in asked_slowly(book, kinds, burdens):
            for pair in itertools.product(range(book[1]), repeat=2):
                if pair != pair_at(book, *asked):
                    paper = paper_slowly(with_pair(book, *asked, pair), most - 1, pick)
                    if paper is None:
                        return None
                    cases.append((asked, pair, paper))
    return (kinds, burdens, tuple(cases))


def all_parted(book):
    """All three kinds and burdens that part."""
    sorts, kinds = range(book[1]), range(len(book[0]))
    return [
        ((u, v, w), three)
        for u, v, w in itertools.product(kinds, repeat=3) if u > v > w
        for three in itertools.product(sorts, repeat=3)
        if len(set(both_ways(book, (u, v, w), three))) == 2
    ]


def last_parted(book):
    """The last three kinds and burdens that part, not the first."""
    return all_parted(book)[-1]


def exactly(one, other):
    """Whether two things are the same, a truth being no number."""
    if type(one) is not type(other):
        return False
    if type(one) is tuple:
        return len(one) == len(other) and all(map(exactly, one, other))
    return one == other


def is_paper(book, thing, most):
    """Whether the thing is a paper, by the words of point 41."""
    if type(thing) is not tuple or len(thing) != 3:
        return False
    kinds, burdens, cases = thing
    if type(cases) is not tuple or not any(exactly((kinds, burdens), parted) for parted in all_parted(book)):
        return False
    if not most:
        return cases == ()
    due = [
        (asked, pair)
        for asked in asked_slowly(book, kinds, burdens)
        for pair in itertools.product(range(book[1]), repeat=2) if pair != pair_at(book, *asked)
    ]
    return len(cases) == len(due) and all(
        type(case) is tuple and len(case) == 3 and exactly(case[:2], (asked, pair))
        and is_paper(with_pair(book, *asked, pair), case[2], most - 1)
        for case, (asked, pair) in zip(cases, due)
    )


def otherwise(thing):
    """The thing with one part of it otherwise, at any depth, each in its turn."""
    if isinstance(thing, tuple):
        for at, part in enumerate(thing):
            for other in otherwise(part):
                yield swapped(thing, at, other)
            yield thing[:at] + thing[at + 1:]
            yield thing[:at] + (part, part) + thing[at + 1:]
            if at and part != thing[at - 1]:
                yield thing[:at - 1] + (part, thing[at - 1]) + thing[at + 1:]
        yield thing + (0,)
        yield None
    else:
        yield from (thing + 1, thing - 1, GREAT, -GREAT, None, str(thing), (thing,))
        if thing in (0, 1):
            yield bool(thing)


class PairsAsked(unittest.TestCase):
    def test_each_three(self):
        counts = set()
        for book in good_books(4, 3) + other_books(5, 3):
            kinds, sorts = range(len(book[0])), range(book[1])
            for u, v, w in itertools.product(kinds, repeat=3):
                if u > v > w:
                    for burdens in itertools.product(sorts, repeat=3):
                        told = pairs_asked(book, (u, v, w), burdens)
                        self.assertEqual(told, asked_slowly(book, (u, v, w), burdens))
                        counts.add(len(told))
        self.assertEqual(counts, {3, 4, 5, 6})

    def test_one_that_is_asked_twice_stands_once(self):
        book = keeping((0, 1, 2), sorts=2)
        self.assertEqual(pairs_asked(book, (2, 1, 0), (1, 0, 1)), ((2, 1, 1, 0), (2, 0, 1, 1), (1, 0, 0, 1)))

    def test_written_out(self):
        book = staying((0, 1, 2), sorts=2)
        self.assertEqual(pairs_asked(burdens=(1, 0, 1), kinds=(2, 1, 0), book=book), (
            (2, 1, 1, 0), (2, 0, 0, 1), (1, 0, 1, 0), (1, 0, 0, 1), (2, 0, 1, 0), (2, 1, 0, 1),
        ))


class UnmendedHolds(unittest.TestCase):
    def books(self):
        """Books with the greatest most of which papers are looked at."""
        dice = random.Random(41)
        found = [(spoilt(dice, many, 2, pairs), 2) for many in (3, 4) for pairs in (2, 3, 4) for _ in range(2)]
        found += [(random_book(dice, 3, 2), 2) for _ in range(3)]
        found += [(random_book(dice, many, 3), 1) for many in (3, 4)]
        return found + [(spoilt(dice, 3, 3, 3), 1)]

    def test_right_papers(self):
        seen = set()
        for book, highest in self.books():
            for most in range(highest + 1):
                for pick in (first_parted, last_parted):
                    paper = paper_slowly(book, most, pick)
                    if paper is not None:
                        seen.add((book[1], most))
                        self.assertIs(unmended_holds(book, paper, most=most), True)
                        for other in range(4):
                            if other != most:
                                self.assertIs(unmended_holds(book, paper, most=other), False)
        self.assertEqual(seen, {(2, 0), (2, 1), (2, 2), (3, 0), (3, 1)})

    def test_one_where_none_is_told(self):
        self.assertEqual(MOST, 1)
        book = next(book for book, _ in self.books() if paper_slowly(book, 1))
        self.assertIs(unmended_holds(book, paper_slowly(book, 1)), True)
        self.assertIs(unmended_holds(book, paper_slowly(book, 0)), False)
        self.assertIs(unmended_holds(most=0, paper=paper_slowly(book, 0), book=book), True)

    def test_one_thing_otherwise_at_any_depth(self):
        book = mixed_book((0, 1, 2), 2, 1)
        for most in (0, 1):
            paper = paper_slowly(book, most)
            self.assertIs(is_paper(book, paper, most), True)
            held = []
            for other in otherwise(paper):
                due = is_paper(book, other, most)
                self.assertIs(unmended_holds(book, other, most=most), due)
                held.append(due)
            # Other burdens may part as well; nearly all else is wrong.
            self.assertLess(held.count(True) * 10, len(held))

    def test_one_thing_otherwise_deeper(self):
        book = next(book for book, highest in self.books() if highest == 2 and paper_slowly(book, 2))
        kinds, burdens, cases = paper_slowly(book, 2)
        dice = random.Random(42)
        for at in range(len(cases)):
            for other in dice.sample(list(otherwise(cases[at])), 12):
                changed = (kinds, burdens, swapped(cases, at, other))
                self.assertIs(unmended_holds(book, changed, most=2), is_paper(book, changed, 2))
            for second in dice.sample(range(len(cases)), 3):
                if second != at:
                    changed = swapped(swapped(cases, at, cases[second]), second, cases[at])
                    self.assertIs(unmended_holds(book, (kinds, burdens, changed), most=2), False)

    def test_truths_for_numbers(self):
        # All numbers but kind 2 equal a truth in books of two sorts.
        book = mixed_book((0, 1, 2), 2, 1)
        for most in (0, 1):
            paper = paper_slowly(book, most)
            count = 0
            for other in self.with_truths(paper):
                self.assertEqual(other, paper)
                self.assertIs(unmended_holds(book, other, most=most), False)
                count += 1
            self.assertGreater(count, 4)

    def with_truths(self, thing):
        """The thing with a truth for one number that equals it, each in its turn."""
        for at, part in enumerate(thing):
            if isinstance(part, tuple):
                for other in self.with_truths(part):
                    yield swapped(thing, at, other)
            elif part in (0, 1):
                yield swapped(thing, at, bool(part))

    def test_things_that_are_no_papers(self):
        deep = ()
        for _ in range(9):
            deep = (deep,)
        for book in (mixed_book((0, 1, 2), 2, 1), sorting((0, 1, 2), sorts=2), sorting((0,), sorts=1)):
            for most in (0, 1, 2):
                for thing in NO_PAPERS + (deep,):
                    self.assertIs(unmended_holds(book, thing, most=most), False)

    def test_kinds_and_burdens_that_cannot_be(self):
        book = mixed_book((0, 1, 2), 2, 1)
        kinds, burdens, cases = paper_slowly(book, 0)
        for wrong in itertools.product((-1, 0, 1, 2, 3), repeat=3):
            if wrong != (2, 1, 0):
                self.assertIs(unmended_holds(book, (wrong, burdens, cases), most=0), False)
        wide = mixed_book((0, 1, 2, 3), 2, 1)
        for wrong in ((4, 1, 0), (5, 4, 3), (6, 5, 4), (3, 1, -1), (3, 3, 0)):
            self.assertIs(unmended_holds(wide, (wrong, burdens, cases), most=0), False)
        for wrong in ((0, 0, 2), (-1, 0, 0), (0, 0), (0, 0, 0, 0), "010", (0, None, 0)):
            self.assertIs(unmended_holds(book, (kinds, wrong, cases), most=0), False)

    def test_of_a_good_book_there_is_none(self):
        wrong = spoilt(random.Random(1), 3, 2, 4)
        for book in (keeping(PACES[:3], sorts=2), sorting(PACES[:3], sorts=2)):
            for most in (0, 1, 2):
                self.assertIs(unmended_holds(book, paper_slowly(wrong, 0), most=most), False)
                for burdens in itertools.product(range(2), repeat=3):
                    self.assertIs(unmended_holds(book, ((2, 1, 0), burdens, ()), most=most), False)

    def test_of_another_book(self):
        books = [book for book, _ in self.books()]
        held = set()
        for one, other in itertools.permutations(books, 2):
            for most in (0, 1):
                paper = paper_slowly(one, most)
                told = unmended_holds(other, paper, most=most)
                self.assertIs(told, is_paper(other, paper, most))
                held.add(told)
        self.assertEqual(held, {True, False})


class MendBook(unittest.TestCase):
    def test_good_books(self):
        for book in good_books(4, 3):
            for most in range(3 if book[1] < 3 else 2):
                self.assertEqual(mend_book(book, most=most), ("mended", (), None))

    def test_whatever_the_book(self):
        dice = random.Random(43)
        seen = set()
        for _ in range(120):
            many, sorts = dice.choice((3, 4)), dice.choice((1, 2, 2, 2, 3))
            book = random_book(dice, many, sorts) if dice.random() < 0.1 else spoilt(
                dice, many, sorts, dice.randrange(4) if sorts > 1 else 0)
            for most in range(3 if sorts < 3 else 2):
                seen.add((most,) + self.mended(book, most))
        self.assertLess({
            (0, "none", 0), (1, "mended", 1), (1, "none", 1), (2, "mended", 1), (2, "mended", 2), (2, "none", 2),
        }, seen)

    def mended(self, book, most):
        """Look at what is told of a book; whether it was mended, by how many pairs."""
        word, *told = mend_book(book, most=most)
        if word == "none":
            paper, = told
            self.assertIs(unmended_holds(book, paper, most=most), True)
            self.assertIsNone(self.fewest(book, most))
            return word, most
        changes, paper = told
        self.assertEqual(word, "mended")
        self.assertLessEqual(len(changes), most)
        self.changed_well(book, changes)
        if changes:
            self.assertIs(unmended_holds(book, paper, most=len(changes) - 1), True)
        else:
            self.assertIsNone(paper)
        self.assertEqual(self.fewest(book, most), len(changes))
        return word, len(changes)

    def changed_well(self, book, changes):
        self.assertIs(type(changes), tuple)
        self.assertEqual(sorted(changes), list(changes))
        self.assertEqual(len({asked for asked, _ in changes}), len(changes))
        for asked, pair in changes:
            self.assertNotEqual(pair_at(book, *asked), pair)
            self.assertEqual([type(part) for part in asked + pair], [int] * 6)
            book = with_pair(book, *asked, pair)
        self.assertIs(look_book(book), True)
        self.assertEqual(judge_book(book)[0], "good")
        self.assertIsNone(parting(book))

    def fewest(self, book, most):
        """How few pairs mend the book, at most so many, or None."""
        return next((pairs for pairs in range(most + 1) if paper_slowly(book, pairs) is None), None)

    def test_against_all_single_pairs(self):
        # Without point 41's branching: each pair of each table is tried.
        dice = random.Random(44)
        for _ in range(25):
            book = spoilt(dice, 3, 2, dice.choice((1, 2)))
            places = [(u, v, a, b) for u, v in two_kinds(3) for a in range(2) for b in range(2)]
            pairs = list(itertools.product(range(2), repeat=2))
            one = any(
                judge_book(with_pair(book, *asked, pair))[0] == "good" for asked in places for pair in pairs
            )
            self.assertEqual(mend_book(book)[0] == "mended", one)

    def test_against_all_choices_of_two_pairs(self):
        dice = random.Random(45)
        places = [(u, v, a, b) for u, v in two_kinds(3) for a in range(2) for b in range(2)]
        pairs = list(itertools.product(range(2), repeat=2))
        for _ in range(3):
            book = spoilt(dice, 3, 2, 4)
            two = any(
                judge_book(with_pair(with_pair(book, *first, c), *second, d))[0] == "good"
                for first, second in itertools.combinations(places, 2) for c in pairs for d in pairs
            )
            self.assertEqual(mend_book(book, most=2)[0] == "mended", two)

    def test_one_pair_otherwise(self):
        for maker in (keeping, staying, sorting, folding):
            for sorts in (2, 3):
                good = maker(PACES, sorts=sorts)
                for u, v in two_kinds(4):
                    book = with_pair(good, u, v, 1, 0, (1, 1))
                    told = mend_book(book)
                    self.assertEqual(told[0], "mended")
                    self.assertLessEqual(len(told[1]), 1)

    def test_one_where_none_is_told(self):
        dice = random.Random(46)
        for _ in range(10):
            book = spoilt(dice, 3, 2, 3)
            self.assertEqual(mend_book(book), mend_book(most=1, book=book))

    def test_few_kinds(self):
        for book in (mixed_book((0,), 3), mixed_book((0, 1), 3), mixed_book(PACES, 1)):
            self.assertEqual(mend_book(book), ("mended", (), None))

    def test_the_steps_of_turning(self):
        book = turning(PACES, ups(4, 3), sorts=3)
        self.assertEqual(mend_book(book, most=0), ("mended", (), None))
        wrong = with_pair(book, 3, 1, 2, 0, pair_at(book, 3, 1, 0, 2))
        self.assertEqual(mend_book(wrong, most=0)[0], "none")
        self.assertEqual(mend_book(wrong)[1], (((3, 1, 2, 0), pair_at(book, 3, 1, 2, 0)),))


if __name__ == "__main__":
    unittest.main()
