"""Round roads: their passings, what is borne at far beats, after rounds, and when it comes again."""

import itertools
import math
import random
import unittest
from fractions import Fraction

from wherefrom.makers import folding, keeping, sorting, turning
from wherefrom.rounds import comes_again, round_burdens, round_passings, rounds_done
from followed import good_books, made_of, other_books, some_row, ups
from samples import book_of, mixed_book

LONGEST = 10 ** 9
LONG = 10 ** 15
PACES = (-6, -1, 0, 4, 6)


def kinds_in(row):
    return tuple(kind for kind, _ in row)


def burdens_in(row):
    return tuple(burden for _, burden in row)


def met_round(book, kinds, spots, long, beats):
    """All passings to a beat, moments as fractions, in the told order: each m by itself."""
    found = []
    for i, j in itertools.permutations(range(len(kinds)), 2):
        gap = book[0][kinds[i]] - book[0][kinds[j]]
        if kinds[i] > kinds[j]:
            for m in itertools.count():
                moment = Fraction((spots[j] - spots[i]) % long + m * long, gap)
                if moment > beats:
                    break
                found.append((moment, -kinds[i], -kinds[j], i, j))
    return [(moment, i, j) for moment, _, _, i, j in sorted(found)]


def borne_round(book, row, spots, long, beats):
    """What each bears at a beat, passing by passing."""
    kinds, burdens = kinds_in(row), list(burdens_in(row))
    for _, i, j in met_round(book, kinds, spots, long, beats):
        burdens[j], burdens[i] = made_of(book, kinds[i], kinds[j], burdens[i], burdens[j])
    return tuple(burdens)


def is_near(book, row):
    """Whether the walkers' paces are at most 12 apart."""
    paces = [book[0][kind] for kind, _ in row]
    return not paces or max(paces) - min(paces) <= 12


def books():
    near = good_books(5, 3) + other_books(5, 3)
    return near + [mixed_book(PACES, 3, 2), turning(PACES, ups(5, 2), sorts=3), mixed_book((-1000, -990), 3)]


def settings():
    """Settings out on round roads (book, row, spots, long), of none to five walkers."""
    dice = random.Random(36)
    found = []
    for book in books():
        for many in range(6):
            row = some_row(book, many, dice.randrange(6))
            if is_near(book, row):
                for long in (max(1, many), many + 1, 12, 60, LONGEST):
                    found.append((book, row, tuple(sorted(dice.sample(range(long), many))), long))
    return found


class RoundPassings(unittest.TestCase):
    def test_against_each_m_by_itself(self):
        for book, row, spots, long in settings():
            kinds = kinds_in(row)
            told = round_passings(book, kinds, spots, long=long)
            self.assertEqual(
                [(Fraction(*moment), i, j) for moment, i, j in told], met_round(book, kinds, spots, long, long))

    def test_moments_in_lowest_terms(self):
        lowers = set()
        for book, row, spots, long in settings():
            for (upper, lower), _, _ in round_passings(book, kinds_in(row), spots, long=long):
                self.assertGreaterEqual(lower, 1)
                self.assertEqual(math.gcd(upper, lower), 1)
                lowers.add(lower)
        self.assertGreater(len(lowers), 5)

    def test_none_at_the_beat_0_nor_at_the_end(self):
        for book, row, spots, long in settings():
            for (upper, lower), _, _ in round_passings(book, kinds_in(row), spots, long=long):
                self.assertGreater(upper, 0)
                self.assertLess(upper, long * lower)

    def test_as_often_as_the_gap_of_their_paces(self):
        for book, row, spots, long in settings():
            kinds = kinds_in(row)
            told = [(i, j) for _, i, j in round_passings(book, kinds, spots, long=long)]
            for i, j in itertools.permutations(range(len(kinds)), 2):
                gap = max(0, book[0][kinds[i]] - book[0][kinds[j]])
                self.assertEqual(told.count((i, j)), gap)

    def test_like_kinds_and_short_roads(self):
        self.assertEqual(round_passings(keeping((0, 5), sorts=1), (), (), long=1), ())
        self.assertEqual(round_passings(keeping((0, 5), sorts=1), (1,), (0,), long=1), ())
        self.assertEqual(round_passings(keeping((0, 5), sorts=1), (1, 1, 1), (0, 4, 5), long=6), ())

    def test_written_out(self):
        book = keeping((-1, 1), sorts=2)
        self.assertEqual(round_passings(book, (1, 0), (0, 1), long=4), (((1, 2), 0, 1), ((5, 2), 0, 1)))
        self.assertEqual(round_passings(book, (0, 1), (0, 1), long=4), (((3, 2), 1, 0), ((7, 2), 1, 0)))
        told = round_passings(long=2, spots=(0, 1), kinds=(0, 1), book=book)
        self.assertEqual(told, (((1, 2), 1, 0), ((3, 2), 1, 0)))

    def test_those_of_one_moment(self):
        book = keeping((0, 1, 2), sorts=2)
        told = round_passings(book, (2, 1, 0), (0, 1, 2), long=3)
        self.assertEqual(told, (((1, 1), 0, 1), ((1, 1), 0, 2), ((1, 1), 1, 2), ((5, 2), 0, 2)))
        two = round_passings(keeping((0, 1), sorts=2), (1, 0, 1, 0), (0, 1, 2, 3), long=4)
        self.assertEqual(two, (((1, 1), 0, 1), ((1, 1), 2, 3), ((3, 1), 0, 3), ((3, 1), 2, 1)))


class RoundBurdens(unittest.TestCase):
    def test_against_passing_by_passing(self):
        for book, row, spots, long in settings():
            if long <= 60:
                for beat in (0, 1, long - 1, long, long + 1, 3 * long, 3 * long + 2):
                    told = round_burdens(book, row, spots, long=long, beat=beat)
                    self.assertEqual(told, borne_round(book, row, spots, long, beat))

    def test_right_before_at_and_behind_a_passing(self):
        for book, row, spots, long in settings()[::3]:
            moments = [moment for moment, _, _ in met_round(book, kinds_in(row), spots, long, 2 * long)]
            for moment in moments[::7]:
                for beat in (math.ceil(moment) - 1, math.ceil(moment), math.floor(moment) + 1):
                    told = round_burdens(book, row, spots, long=long, beat=beat)
                    self.assertEqual(told, borne_round(book, row, spots, long, beat))

    def test_a_passing_at_the_beat_is_done(self):
        book = sorting((0, 1), sorts=2)
        row = ((1, 1), (0, 0))
        self.assertEqual(round_burdens(keeping((0, 1), sorts=2), row, (0, 2), long=5, beat=2), (1, 0))
        told = [round_burdens(book, ((1, 0), (0, 1)), (0, 2), long=5, beat=beat) for beat in (0, 1, 2, 3)]
        self.assertEqual(told, [(0, 1), (0, 1), (1, 0), (1, 0)])

    def test_far_beats_go_on_from_near_ones(self):
        # What is borne after whole rounds comes again by at most so many as
        # there are rows of burdens: a number of rounds that all these divide.
        for book, row, spots, long in settings()[::2]:
            states = book[1] ** len(row)
            again = math.lcm(*range(1, states + 1)) if states <= 32 else None
            if again and long * again * 2 <= LONG:
                for rest in (0, 1, long // 2):
                    beat = long * states + rest
                    told = round_burdens(book, row, spots, long=long, beat=beat)
                    self.assertEqual(round_burdens(book, row, spots, long=long, beat=beat + long * again), told)

    def test_at_the_farthest_beat(self):
        for book, row, spots, long in settings():
            kinds = kinds_in(row)
            rounds, rest = divmod(LONG, long)
            burdens = burdens_in(row)
            seen = {}
            while burdens not in seen and len(seen) < rounds:
                seen[burdens] = len(seen)
                burdens = borne_round(book, tuple(zip(kinds, burdens)), spots, long, long)
            if burdens in seen:
                tail = seen[burdens]
                burdens = list(seen)[tail + (rounds - tail) % (len(seen) - tail)]
            due = borne_round(book, tuple(zip(kinds, burdens)), spots, long, rest)
            self.assertEqual(round_burdens(book, row, spots, long=long, beat=LONG), due)

    def test_gone_on_from_the_spots_of_a_beat(self):
        seen = 0
        for book, row, spots, long in settings():
            for beat in (1, 5, long, 2 * long + 3, 10 ** 14):
                where = [(spot + book[0][kind] * beat) % long for (kind, _), spot in zip(row, spots)]
                if len(set(where)) == len(where):
                    seen += 1
                    borne = round_burdens(book, row, spots, long=long, beat=beat)
                    turn = sorted(range(len(row)), key=lambda i: where[i])
                    between = tuple((row[i][0], borne[i]) for i in turn)
                    for more in (0, 1, long, 3 * long + 1, 10 ** 14):
                        later = round_burdens(book, row, spots, long=long, beat=beat + more)
                        told = round_burdens(book, between, tuple(where[i] for i in turn), long=long, beat=more)
                        self.assertEqual(told, tuple(later[i] for i in turn))
        self.assertGreater(seen, 300)

    def test_by_name_and_kinds_of_what_is_told(self):
        book = mixed_book((0, 1), 3)
        told = round_burdens(beat=7, long=5, spots=(0, 2), row=((1, 2), (0, 1)), book=book)
        self.assertEqual(told, borne_round(book, ((1, 2), (0, 1)), (0, 2), 5, 7))
        self.assertEqual([type(told), type(told[0])], [tuple, int])
        self.assertEqual(round_burdens(book, (), (), long=1, beat=LONG), ())
        self.assertEqual(round_burdens(book, ((1, 2),), (0,), long=1, beat=LONG), (2,))


class Rounds(unittest.TestCase):
    def rows(self):
        found = []
        for book in books():
            for many in range(6):
                for seed in range(2):
                    row = some_row(book, many, seed)
                    if is_near(book, row):
                        found.append((book, row))
        return found

    def test_that_of_the_told_spots(self):
        for book, row in self.rows():
            many = max(1, len(row))
            for rounds in (0, 1, 2, 5):
                due = borne_round(book, row, tuple(range(len(row))), many, rounds * many)
                self.assertEqual(rounds_done(book, row, rounds=rounds), due)

    def test_one_round_where_none_is_told(self):
        for book, row in self.rows():
            self.assertEqual(rounds_done(book, row), rounds_done(row=row, book=book, rounds=1))

    def test_far_rounds(self):
        for book, row in self.rows():
            spots, many = tuple(range(len(row))), max(1, len(row))
            for rounds in (999, 10 ** 14):
                due = round_burdens(book, row, spots, long=many, beat=rounds * many)
                self.assertEqual(rounds_done(book, row, rounds=rounds), due)
            first, again = comes_again(book, row)
            due = rounds_done(book, row, rounds=first + (LONG - first) % again)
            self.assertEqual(rounds_done(book, row, rounds=LONG), due)

    def test_first_and_again_each_the_least(self):
        told = set()
        for book, row in self.rows():
            spots, many = tuple(range(len(row))), max(1, len(row))
            borne = [burdens_in(row)]
            while borne[-1] not in borne[:-1]:
                borne.append(borne_round(book, tuple(zip(kinds_in(row), borne[-1])), spots, many, many))
            first = borne.index(borne[-1])
            self.assertEqual(comes_again(book, row), (first, len(borne) - 1 - first))
            told.add(comes_again(book, row))
        self.assertGreater(len({first for first, _ in told}), 2)
        self.assertGreater(len({again for _, again in told}), 2)

    def test_a_long_way_round(self):
        # Each passing steps both burdens on as one number in base three.
        book = book_of((0, 1), 3, lambda u, v, a, b: divmod((a + 3 * b + 1) % 9, 3))
        self.assertEqual(comes_again(book, ((1, 0), (0, 0))), (0, 9))
        one = turning((0, 1), ((1, 0),), sorts=6)
        self.assertEqual(comes_again(one, ((1, 0), (0, 3))), (0, 6))
        self.assertEqual(rounds_done(one, ((1, 0), (0, 3)), rounds=LONG), (LONG % 6, 3))

    def test_a_tail(self):
        book = book_of((0, 1), 6, lambda u, v, a, b: (b, min(5, a + 1)))
        self.assertEqual([comes_again(book, ((1, a), (0, 2))) for a in range(6)], [(5 - a, 1) for a in range(6)])
        self.assertEqual([rounds_done(book, ((1, 0), (0, 2)), rounds=n) for n in (0, 1, 4, 5, 6, LONG)], [
            (0, 2), (1, 2), (4, 2), (5, 2), (5, 2), (5, 2),
        ])

    def test_no_walkers_and_one(self):
        book = mixed_book((0, 1), 3)
        for rounds in (0, 1, LONG):
            self.assertEqual(rounds_done(book, (), rounds=rounds), ())
            self.assertEqual(rounds_done(book, ((1, 2),), rounds=rounds), (2,))
        self.assertEqual(comes_again(book, ()), (0, 1))
        self.assertEqual(comes_again(row=((1, 2),), book=book), (0, 1))

    def test_by_a_good_book_any_spots_and_any_length(self):
        dice = random.Random(38)
        for book in good_books(5, 3) + [folding(PACES, sorts=3), sorting(PACES, sorts=3)]:
            for many in range(6):
                row = some_row(book, many, dice.randrange(6))
                if not is_near(book, row):
                    continue
                for long in (max(1, many), many + 1, many + 7, 1000, LONGEST):
                    spots = tuple(sorted(dice.sample(range(long), many)))
                    for rounds in (0, 1, 2, 7, 10 ** 6):
                        told = round_burdens(book, row, spots, long=long, beat=rounds * long)
                        self.assertEqual(told, rounds_done(book, row, rounds=rounds))


if __name__ == "__main__":
    unittest.main()
