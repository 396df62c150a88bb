"""The road by hand: each deed, what it refuses, what is taken back, and what is told."""

import random
import unittest

from wherefrom.byhand import Road
from wherefrom.doing import borne_in, led_by
from wherefrom.errors import Full, NoRow, NoSpot, NoSpots, NoWalker
from wherefrom.makers import sorting, turning
from wherefrom.roads import passings, row_at_last, row_by, settled_at, spots_by, word_by
from wherefrom.words import look_row, order_behind
from followed import good_books, other_books, some_row, stand_at, ups
from samples import GREAT, mixed_book

BOOK = sorting((0, 1, 2), sorts=3)
ROW = ((2, 2), (1, 1), (0, 0))
SPOTS = (0, 1, 20)
FAR = 4 * 10 ** 18
LONG = 10 ** 15


def told(road):
    """All that a Road tells of itself."""
    return (
        road.beat(), road.row(), road.spots(), road.numbers(), road.begun(), road.letters(), road.log(), len(road),
        repr(road),
    )


class Model:
    """A road that does all its standing deeds again whenever it is asked."""

    def __init__(self, book, row, spots):
        self.book, self.start, self.deeds, self.log = book, (row, spots), [], []

    def stand(self):
        row, spots = self.start
        walkers = [(spot, number, kind, burden) for number, ((kind, burden), spot) in enumerate(zip(row, spots))]
        beat, follows, begun, word = 0, len(row), row, ()
        for name, *things in self.deeds:
            row = tuple((kind, burden) for _, _, kind, burden in walkers)
            spots = tuple(spot for spot, _, _, _ in walkers)
            if name == "walk":
                order, where, borne = stand_at(self.book, row, spots, things[0])
                word += word_by(self.book, tuple(kind for kind, _ in row), spots, beat=things[0])
                walkers = [
                    (spot, walkers[i][1], *walker) for i, spot, walker in zip(order, where, borne)
                ]
                beat += things[0]
                continue
            if name == "shift":
                walkers[things[0]] = (things[1], *walkers[things[0]][1:])
                continue
            if name == "lay":
                walkers[things[0]] = (*walkers[things[0]][:3], things[1])
            elif name == "leave":
                del walkers[things[0]]
            else:
                walkers = sorted(walkers + [(things[2], follows, things[0], things[1])], key=lambda one: one[0])
                follows += 1
            begun, word = tuple((kind, burden) for _, _, kind, burden in walkers), ()
        row = tuple((kind, burden) for _, _, kind, burden in walkers)
        spots = tuple(spot for spot, _, _, _ in walkers)
        numbers = tuple(number for _, number, _, _ in walkers)
        return (beat, row, spots, numbers, begun, word, self.log, len(row), f"Road({len(row)}, {beat})")

    def do(self, *deed):
        self.deeds.append(deed)
        self.log.append(deed)

    def back(self):
        if self.deeds:
            self.deeds.pop()
            self.log.append(("back",))


class Hands(unittest.TestCase):
    def refused(self, road, error, field, thing, deed, *things):
        """The deed is refused with the thing, and all stands as it stood."""
        before, twin = told(road), road.copied()
        with self.assertRaises(error) as caught:
            deed(*things)
        self.assertIs(type(caught.exception), error)
        self.assertEqual(getattr(caught.exception, field), thing)
        self.assertEqual(told(road), before)
        self.assertEqual(road, twin)


class Begins(Hands):
    def test_with_a_row_and_spots(self):
        road = Road(BOOK, ROW, SPOTS)
        self.assertEqual(told(road), (0, ROW, SPOTS, (0, 1, 2), ROW, (), [], 3, "Road(3, 0)"))

    def test_without_a_row(self):
        for road in (Road(BOOK), Road(BOOK, ()), Road(BOOK, (), ()), Road(book=BOOK)):
            self.assertEqual(told(road), (0, (), (), (), (), (), [], 0, "Road(0, 0)"))
            road.walk(5)
            self.assertEqual(told(road), (5, (), (), (), (), (), [("walk", 5)], 0, "Road(0, 5)"))
            self.assertEqual(road.join(1, 2, -7), 0)
            self.assertEqual((road.row(), road.spots(), road.numbers()), (((1, 2),), (-7,), (0,)))

    def test_by_name(self):
        self.assertEqual(Road(spots=SPOTS, row=ROW, book=BOOK), Road(BOOK, ROW, SPOTS))

    def test_no_row(self):
        for row, word, at in (
            (None, "form", 0), (((0, 0),) * 11, "form", 0), (5, "form", 0), ("", "form", 0),
            (((0, 0), 3), "walker", 1), (((0, 0), (3, 0)), "kind", 1), (((True, 0),), "kind", 0),
            (((0, 3),), "burden", 0), (((0, GREAT),), "burden", 0),
        ):
            for spots in ((), None, (0, 1), (1, 0)):
                with self.assertRaises(NoRow) as caught:
                    Road(BOOK, row, spots)
                self.assertEqual((caught.exception.word, caught.exception.at), (word, at))

    def test_no_spots(self):
        for row, spots, at in (
            (ROW, None, 0), (ROW, (), 0), (ROW, (0, 1), 2), (ROW, (0, 1, 2, 3), 3), (ROW, (0, 0, 1), 1),
            (ROW, (0, 1, True), 2), (ROW, ("a", 1, 0), 0), ((), (1,), 0), (ROW, (GREAT, -GREAT, 0), 1), ((), "", 0),
        ):
            with self.assertRaises(NoSpots) as caught:
                Road(BOOK, row, spots)
            self.assertEqual(caught.exception.at, at)
        with self.assertRaises(NoSpots) as caught:
            Road(BOOK, ROW)
        self.assertEqual(caught.exception.at, 0)

    def test_methods_stand_in_the_class_itself(self):
        for name in (
            "walk shift lay join leave back copied beat row spots numbers begun letters log __len__ __eq__ __repr__"
        ).split():
            self.assertIn(name, vars(Road))


class Walk(Hands):
    def test_against_a_setting_out(self):
        for book in good_books(5, 2) + other_books(5, 2):
            for many in (0, 1, 3, 6, 10):
                row = some_row(book, many, many)
                kinds = tuple(kind for kind, _ in row)
                spots = tuple(k * k - 9 for k in range(many))
                for beats in (0, 1, 2, 50, LONG):
                    road = Road(book, row, spots)
                    self.assertIsNone(road.walk(beats))
                    order, where, borne = stand_at(book, row, spots, beats)
                    word = word_by(book, kinds, spots, beat=beats)
                    log = [("walk", beats)]
                    self.assertEqual(
                        told(road), (beats, borne, where, order, row, word, log, many, f"Road({many}, {beats})"))

    def test_walked_on_and_on(self):
        for book in good_books(5, 2) + other_books(5, 2):
            row = some_row(book, 8, 1)
            spots = tuple(k * k - 9 for k in range(8))
            kinds = tuple(kind for kind, _ in row)
            road = Road(book, row, spots)
            for beat in range(1, 30):
                road.walk()
                self.assertEqual(road.beat(), beat)
                self.assertEqual(road.spots(), spots_by(book, kinds, spots, beat=beat))
                # Those of one kind keep their order, so it is all one whether they pause.
                self.assertEqual(road.letters(), word_by(book, kinds, spots, beat=beat))
                self.assertEqual(road.row(), row_by(book, row, spots, beat=beat))
            road.walk(LONG - 29)
            self.assertEqual(road.row(), row_at_last(book, row, spots))

    def test_of_no_beats_it_is_a_deed(self):
        road = Road(BOOK, ROW, SPOTS)
        road.walk(0)
        self.assertEqual(told(road), (0, ROW, SPOTS, (0, 1, 2), ROW, (), [("walk", 0)], 3, "Road(3, 0)"))
        self.assertIs(road.back(), True)
        self.assertIs(road.back(), False)

    def test_default_and_name(self):
        one, other = Road(BOOK, ROW, SPOTS), Road(BOOK, ROW, SPOTS)
        one.walk()
        other.walk(beats=1)
        self.assertEqual(told(one), told(other))
        self.assertEqual(one.log(), [("walk", 1)])
        self.assertEqual((one.row(), one.spots(), one.numbers()), (((1, 1), (2, 2), (0, 0)), (2, 2, 20), (1, 0, 2)))

    def test_on_from_where_some_are_abreast(self):
        road = Road(BOOK, ROW, (0, 1, 2))
        road.walk()
        self.assertEqual((road.spots(), road.numbers(), road.letters()), ((2, 2, 2), (2, 1, 0), (0, 1, 0)))
        road.walk(3)
        self.assertEqual((road.spots(), road.numbers(), road.letters()), ((2, 5, 8), (2, 1, 0), (0, 1, 0)))

    def test_numbers_are_places_at_the_beginning_of_the_deed(self):
        # Both quicker ones pass at one moment; the hindmost of them, though it
        # joined last, stands at the lesser place, and so goes first.
        book = mixed_book((0, 1), 3, 1)
        road = Road(book, ((1, 0), (0, 1)), (100, 110))
        self.assertEqual(road.join(0, 2, 10), 2)
        self.assertEqual(road.join(1, 1, 0), 3)
        road.walk(10)
        self.assertEqual((road.numbers(), road.letters()), ((2, 3, 1, 0), (0, 2)))
        kinds = (1, 0, 1, 0)
        self.assertEqual([pair[1:] for pair in passings(book, kinds, (0, 10, 100, 110))][:2], [(0, 1), (2, 3)])


class Shift(Hands):
    def test_between_the_neighbours(self):
        for place, low, high in ((0, None, 1), (1, 0, 20), (2, 1, None)):
            spots = [-GREAT, -FAR, -1, 0, 1, 2, 10, 19, 20, 21, FAR, GREAT]
            for spot in spots:
                road = Road(BOOK, ROW, SPOTS)
                if (low is not None and spot <= low) or (high is not None and spot >= high):
                    self.refused(road, NoSpot, "spot", spot, road.shift, place, spot)
                else:
                    self.assertIsNone(road.shift(place, spot))
                    where = SPOTS[:place] + (spot,) + SPOTS[place + 1:]
                    self.assertEqual(
                        told(road), (0, ROW, where, (0, 1, 2), ROW, (), [("shift", place, spot)], 3, "Road(3, 0)"))

    def test_to_its_own_spot(self):
        road = Road(BOOK, ROW, SPOTS)
        road.shift(place=1, spot=1)
        self.assertEqual((road.spots(), road.log()), (SPOTS, [("shift", 1, 1)]))

    def test_no_walker_then_no_spot(self):
        for road in (Road(BOOK), Road(BOOK, ROW, SPOTS)):
            for place in (-1, -3, -GREAT, len(road), len(road) + 1, GREAT):
                for spot in (0, 1, 5, GREAT, -GREAT):
                    self.refused(road, NoWalker, "place", place, road.shift, place, spot)

    def test_those_abreast(self):
        road = Road(BOOK, ROW, (0, 1, 2))
        road.walk()
        for place in range(3):
            self.refused(road, NoSpot, "spot", 2, road.shift, place, 2)
        self.refused(road, NoSpot, "spot", 3, road.shift, 1, 3)
        road.shift(2, 3)
        road.shift(0, 1)
        self.assertEqual(road.spots(), (1, 2, 3))
        self.assertEqual(road.begun(), ROW)
        self.assertEqual(road.letters(), (0, 1, 0))

    def test_the_passings_still_to_come_change(self):
        road = Road(BOOK, ROW, SPOTS)
        road.shift(1, 19)
        road.walk(1)
        self.assertEqual((road.letters(), road.spots()), ((1,), (2, 20, 20)))
        road.shift(0, 19)
        road.walk(1)
        self.assertEqual((road.letters(), road.numbers()), ((1, 0, 1), (2, 1, 0)))


class Lay(Hands):
    def test_each_place_and_burden(self):
        for place in range(3):
            for burden in range(3):
                road = Road(BOOK, ROW, SPOTS)
                self.assertEqual(road.lay(place, burden), ROW[place][1])
                row = ROW[:place] + ((ROW[place][0], burden),) + ROW[place + 1:]
                self.assertEqual(
                    told(road), (0, row, SPOTS, (0, 1, 2), row, (), [("lay", place, burden)], 3, "Road(3, 0)"))

    def test_a_new_stretch(self):
        road = Road(BOOK, ROW, SPOTS)
        road.walk()
        self.assertEqual((road.begun(), road.letters()), (ROW, (0,)))
        self.assertEqual(road.lay(burden=0, place=1), 2)
        row = ((1, 1), (2, 0), (0, 0))
        self.assertEqual((road.row(), road.begun(), road.letters()), (row, row, ()))

    def test_no_walker(self):
        for road in (Road(BOOK), Road(BOOK, ROW, SPOTS)):
            for place in (-1, -GREAT, len(road), GREAT):
                self.refused(road, NoWalker, "place", place, road.lay, place, 1)


class Join(Hands):
    def test_at_each_place(self):
        for spot, place in ((-GREAT, 0), (-1, 0), (2, 2), (19, 2), (21, 3), (GREAT, 3)):
            road = Road(BOOK, ROW, SPOTS)
            self.assertEqual(road.join(1, 2, spot), 3)
            row = ROW[:place] + ((1, 2),) + ROW[place:]
            where = SPOTS[:place] + (spot,) + SPOTS[place:]
            numbers = (0, 1, 2)[:place] + (3,) + (0, 1, 2)[place:]
            log = [("join", 1, 2, spot)]
            self.assertEqual(told(road), (0, row, where, numbers, row, (), log, 4, "Road(4, 0)"))

    def test_no_spot_then_full(self):
        road = Road(BOOK, ROW, SPOTS)
        for spot in SPOTS:
            self.refused(road, NoSpot, "spot", spot, road.join, 0, 0, spot)
        for spot in range(100, 107):
            self.assertEqual(road.join(0, 0, spot), spot - 97)
        self.assertEqual(len(road), 10)
        for spot in SPOTS + tuple(range(100, 107)):
            self.refused(road, NoSpot, "spot", spot, road.join, 0, 0, spot)
        for spot in (-1, 2, 99, 107, GREAT, -GREAT):
            self.refused(road, Full, "most", 10, road.join, 0, 0, spot)
        road.leave(4)
        self.assertEqual(road.join(2, 2, -1), 10)
        self.refused(road, Full, "most", 10, road.join, 0, 0, -2)

    def test_numbers_of_those_who_join(self):
        road = Road(BOOK, ROW, SPOTS)
        self.assertEqual(road.join(0, 0, 5), 3)
        self.assertEqual(road.join(0, 0, 6), 4)
        road.leave(3)
        self.assertEqual(road.join(0, 0, 7), 5)
        road.back()
        self.assertEqual(road.join(0, 0, 8), 5)
        road.back()
        road.back()
        road.back()
        self.assertEqual(road.join(0, 0, 9), 4)
        self.assertEqual(road.numbers(), (0, 1, 3, 4, 2))

    def test_a_new_stretch(self):
        road = Road(BOOK, ROW, SPOTS)
        road.walk()
        road.join(2, 0, 0)
        self.assertEqual(road.begun(), ((2, 0), (1, 1), (2, 2), (0, 0)))
        self.assertEqual((road.letters(), road.numbers(), road.beat()), ((), (3, 1, 0, 2), 1))


class Leave(Hands):
    def test_each_place(self):
        for place in range(3):
            road = Road(BOOK, ROW, SPOTS)
            self.assertEqual(road.leave(place), ROW[place])
            row, where, numbers = [things[:place] + things[place + 1:] for things in (ROW, SPOTS, (0, 1, 2))]
            self.assertEqual(told(road), (0, row, where, numbers, row, (), [("leave", place)], 2, "Road(2, 0)"))

    def test_to_the_last_one(self):
        road = Road(BOOK, ROW, SPOTS)
        self.assertEqual([road.leave(place=0) for _ in range(3)], list(ROW))
        self.assertEqual((len(road), road.row(), road.spots(), road.numbers()), (0, (), (), ()))
        self.refused(road, NoWalker, "place", 0, road.leave, 0)

    def test_no_walker(self):
        for road in (Road(BOOK), Road(BOOK, ROW, SPOTS)):
            for place in (-1, -GREAT, len(road), GREAT):
                self.refused(road, NoWalker, "place", place, road.leave, place)

    def test_a_new_stretch(self):
        road = Road(BOOK, ROW, SPOTS)
        road.walk()
        self.assertEqual(road.leave(1), (2, 2))
        self.assertEqual((road.begun(), road.letters(), road.spots()), (((1, 1), (0, 0)), (), (2, 20)))


class Back(Hands):
    def deeds(self, road):
        return [
            lambda: road.walk(3), lambda: road.shift(0, -5), lambda: road.lay(1, 2), lambda: road.join(2, 1, -9),
            lambda: road.leave(2), lambda: road.walk(0), lambda: road.walk(LONG),
        ]

    def test_to_the_beginning_and_beyond(self):
        road = Road(BOOK, ROW, SPOTS)
        stood = []
        for deed in self.deeds(road):
            stood.append(told(road))
            deed()
        for count, before in enumerate(reversed(stood)):
            log = road.log()
            self.assertIs(road.back(), True)
            self.assertEqual(told(road)[:6], before[:6])
            self.assertEqual(told(road)[7:], before[7:])
            self.assertEqual(road.log(), log + [("back",)])
        log = road.log()
        for _ in range(3):
            self.assertIs(road.back(), False)
        self.assertEqual(road.log(), log)
        self.assertEqual(road, Road(BOOK, ROW, SPOTS))

    def test_nothing_to_take_back(self):
        road = Road(BOOK)
        self.assertIs(road.back(), False)
        self.assertEqual(road.log(), [])

    def test_the_stretch_before(self):
        road = Road(BOOK, ROW, SPOTS)
        road.walk()
        road.lay(0, 0)
        road.walk(30)
        road.back()
        road.back()
        self.assertEqual((road.begun(), road.letters()), (ROW, (0,)))

    def test_a_refusal_is_nothing_to_take_back(self):
        road = Road(BOOK, ROW, SPOTS)
        road.walk(2)
        with self.assertRaises(NoWalker):
            road.leave(3)
        road.back()
        self.assertEqual(road.log(), [("walk", 2), ("back",)])
        self.assertEqual(road.beat(), 0)


class Copies(Hands):
    def test_stands_alike(self):
        road = Road(BOOK, ROW, SPOTS)
        road.walk(3)
        road.lay(0, 0)
        road.back()
        road.join(2, 2, -3)
        other = road.copied()
        self.assertIs(type(other), Road)
        self.assertIsNot(other, road)
        self.assertEqual(other, road)
        self.assertEqual(told(other), told(road))
        for _ in range(3):
            self.assertEqual(other.back(), road.back())
            self.assertEqual(told(other), told(road))

    def test_goes_on_by_itself(self):
        road = Road(BOOK, ROW, SPOTS)
        road.walk(3)
        before = told(road)
        other = road.copied()
        other.walk(4)
        other.join(1, 1, -40)
        self.assertEqual(told(road), before)
        after = told(other)
        self.assertIs(road.back(), True)
        self.assertIs(road.back(), False)
        road.leave(0)
        self.assertEqual(told(other), after)
        for _ in range(3):
            self.assertIs(other.back(), True)
        self.assertIs(other.back(), False)
        self.assertEqual(other, Road(BOOK, ROW, SPOTS))

    def test_a_copy_of_a_road_without_walkers(self):
        road = Road(BOOK)
        road.copied().walk()
        self.assertEqual(told(road), told(Road(BOOK)))


class Tells(Hands):
    def test_the_log_is_the_askers_own(self):
        road = Road(BOOK, ROW, SPOTS)
        road.walk(2)
        log = road.log()
        self.assertIs(type(log), list)
        log.append("more")
        self.assertEqual(road.log(), [("walk", 2)])
        road.log().clear()
        self.assertEqual(road.log(), [("walk", 2)])
        road.shift(2, 50)
        self.assertEqual(log, [("walk", 2), "more"])

    def test_the_whole_log(self):
        road = Road(BOOK, ROW, SPOTS)
        road.walk(1)
        road.shift(2, 30)
        road.lay(0, 2)
        road.join(1, 0, 100)
        road.leave(3)
        road.back()
        for wrong in (lambda: road.leave(9), lambda: road.shift(0, 99), lambda: road.join(0, 0, 100)):
            with self.assertRaises((NoWalker, NoSpot)):
                wrong()
        road.walk()
        self.assertEqual(road.log(), [
            ("walk", 1), ("shift", 2, 30), ("lay", 0, 2), ("join", 1, 0, 100), ("leave", 3), ("back",), ("walk", 1),
        ])
        self.assertEqual({type(deed) for deed in road.log()}, {tuple})

    def test_kinds_of_what_is_told(self):
        road = Road(BOOK, ROW, SPOTS)
        road.walk(2)
        for thing in (road.row(), road.spots(), road.numbers(), road.begun(), road.letters()):
            self.assertIs(type(thing), tuple)
        self.assertIs(type(road.beat()), int)

    def test_equal_and_unequal(self):
        road = Road(BOOK, ROW, SPOTS)
        self.assertTrue(road == Road(BOOK, ROW, SPOTS))
        self.assertFalse(road != Road(BOOK, ROW, SPOTS))
        for other in (
            Road(sorting((0, 1, 3), sorts=3), ROW, SPOTS), Road(sorting((0, 1, 2), sorts=4), ROW, SPOTS),
            Road(BOOK, ((2, 2), (1, 1), (0, 1)), SPOTS), Road(BOOK, ROW, (0, 1, 21)), Road(BOOK),
        ):
            self.assertFalse(road == other)
            self.assertTrue(road != other)

    def test_the_beat_counts(self):
        still = ((0, 1),)
        one, other = Road(BOOK, still, (4,)), Road(BOOK, still, (4,))
        one.walk(2)
        self.assertEqual(one.spots(), other.spots())
        self.assertFalse(one == other)
        other.walk(1)
        other.walk(1)
        self.assertTrue(one == other)

    def test_log_numbers_and_stretch_do_not_count(self):
        one, other = Road(BOOK, ROW, SPOTS), Road(BOOK, ROW[:2], SPOTS[:2])
        other.lay(0, 0)
        other.lay(0, 2)
        other.leave(1)
        other.join(1, 1, 1)
        other.join(0, 0, 20)
        self.assertNotEqual(one.numbers(), other.numbers())
        self.assertTrue(one == other)

    def test_beside_another_thing(self):
        for thing in (None, 0, "Road(3, 0)", ROW, (BOOK, ROW, SPOTS), [], BOOK, object()):
            self.assertIs(Road(BOOK, ROW, SPOTS) == thing, False)
            self.assertIs(thing == Road(BOOK, ROW, SPOTS), False)
            self.assertIs(Road(BOOK) != thing, True)

    def test_len_and_repr(self):
        for many in range(11):
            road = Road(BOOK, ((0, 1),) * many, tuple(range(many)))
            self.assertEqual((len(road), repr(road), str(road)), (many, f"Road({many}, 0)", f"Road({many}, 0)"))
            road.walk(LONG)
            self.assertEqual(repr(road), f"Road({many}, 1000000000000000)")


class ManyDeeds(unittest.TestCase):
    """Long rows of deeds, beside a road that does them all again at each asking."""

    def some_deed(self, dice, road, model):
        book, many, spots = model.book, len(road), road.spots()
        name = dice.choice(("walk", "walk", "walk", "shift", "shift", "lay", "join", "leave", "back"))
        place = dice.randrange(many) if many else -1
        spot = dice.randrange(-30, 60)
        if name == "walk":
            deed = ("walk", dice.choice((0, 1, 1, 2, 3, 10)))
        elif name == "shift":
            deed = ("shift", place, spot)
        elif name == "lay":
            deed = ("lay", place, dice.randrange(book[1]))
        elif name == "join":
            deed = ("join", dice.randrange(len(book[0])), dice.randrange(book[1]), spot)
        else:
            deed = (name,) if name == "back" else (name, place)
        return deed, spots

    def refusal_due(self, deed, spots):
        name, *things = deed
        if name in ("shift", "lay", "leave") and not spots:
            return NoWalker
        if name == "shift":
            place, spot = things
            if (spots[:place] and spot <= spots[place - 1]) or (spots[place + 1:] and spot >= spots[place + 1]):
                return NoSpot
        if name == "join" and things[2] in spots:
            return NoSpot
        if name == "join" and len(spots) == 10:
            return Full
        return None

    def test_beside_the_model(self):
        books = good_books(5, 2)[::3] + other_books(5, 3)[::4]
        refusals = set()
        for seed, book in enumerate(books):
            dice = random.Random(seed)
            row = some_row(book, seed % 9, seed)
            spots = tuple(range(0, 4 * len(row), 4))
            road, model = Road(book, row, spots), Model(book, row, spots)
            for _ in range(60):
                deed, spots = self.some_deed(dice, road, model)
                due = self.refusal_due(deed, spots)
                refusals.add(due)
                if due:
                    with self.assertRaises(due):
                        getattr(road, deed[0])(*deed[1:])
                elif deed == ("back",):
                    self.assertEqual(road.back(), bool(model.deeds))
                    model.back()
                else:
                    getattr(road, deed[0])(*deed[1:])
                    model.do(*deed)
                self.assertEqual(told(road), model.stand())
                self.check_stretch(book, road)
        self.assertEqual(refusals, {None, NoWalker, NoSpot, Full})

    def check_stretch(self, book, road):
        """The row is what the word makes of the row with which the stretch began."""
        self.assertIs(look_row(book, road.begun()), True)
        self.assertEqual(led_by(book, road.begun(), road.letters()), road.row())

    def test_by_a_good_book_the_order_alone_counts(self):
        for book in (sorting((-2, 0, 1, 5), sorts=3), turning((-2, 0, 1, 5), ups(4, 2), sorts=4)):
            for seed in range(6):
                dice = random.Random(seed)
                row = some_row(book, 8, 1)
                kinds = tuple(kind for kind, _ in row)
                road = Road(book, row, tuple(range(8)))
                for _ in range(40):
                    self.wander(dice, road)
                    borne = borne_in(book, row, order_behind(kinds, road.letters()))
                    self.assertEqual(road.row(), borne)
                last = settled_at(book, tuple(kind for kind, _ in road.row()), road.spots())
                road.walk(last)
                self.assertEqual(road.row(), row_at_last(book, row, tuple(range(8))))

    def wander(self, dice, road):
        """Shift a walker anywhere between its neighbours, or walk a beat."""
        if dice.randrange(3) == 0:
            road.walk(1)
            return
        place = dice.randrange(len(road))
        spots = road.spots()
        low = spots[place - 1] if place else spots[0] - 100
        high = spots[place + 1] if place + 1 < len(spots) else spots[-1] + 100
        if high - low > 1:
            road.shift(place, dice.randrange(low + 1, high))


if __name__ == "__main__":
    unittest.main()
