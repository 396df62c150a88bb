"""Moves of words: done, told from one word to another, and looked at."""

import itertools
import random
import unittest

from wherefrom.errors import NoMove, NoOrder
from wherefrom.moves import join_words, moves_hold, wear_down, word_moved
from wherefrom.words import normal_word
from followed import forward_words, is_free, is_single, needed, swapping, swaps
from samples import GREAT, swapped

NO_MOVES = (
    None, True, False, 0, 1, -1, GREAT, "", "far", "far 0", (), ("far",), ("turn",), ("gone",), ("come",),
    (0,), (0, "far"), ("far", 0, 0), ("turn", 0, 0), ("gone", 0, 0), ("come", 0), ("come", 0, 0, 0),
    ("Far", 0), ("FAR", 0), ("far ", 0), ("fa", 0), ("", 0), (None, 0), (True, 0), (0, 0), (("far", 0), 0),
    ("far", None), ("far", "0"), ("far", (0,)), ("far", ("far", 0)), ("turn", None), ("gone", ""), (("far",), 0),
    ("far", True), ("far", False), ("turn", True), ("turn", False), ("gone", True), ("gone", False),
    ("come", True, 0), ("come", False, 0), ("come", 0, True), ("come", 0, False), ("come", None, 0), ("come", 0, None),
    ("come", 0, "1"), ("come", "0", 1), ("come", (0,), 1), ("come", 0, (1,)), ("Come", 0, 1), (None, 0, 1), (0, 0, 0),
    (("far", 0),), (("far", 0), ("far", 0)), (("come", 0, 1), 0, 1), ("far", ((((((((0,),),),),),),),)),
)


def short_words():
    """All words of up to six letters from 0 to 2."""
    return [word for many in range(7) for word in itertools.product(range(3), repeat=many)]


def long_words():
    """Words of 7 to 60 letters from 0 to 8, single ones and such that aren't."""
    chance = random.Random(20261118)
    words = [(0,) * 60, (8,) * 59, (0, 1) * 30, (8, 7, 6, 5, 4, 3, 2, 1, 0) * 6, tuple(range(9)) * 6]
    for many in (7, 13, 20, 31, 44, 45, 59, 60):
        for most in (2, 5, 8):
            words.append(tuple(chance.randint(0, most) for _ in range(many)))
    for many in range(7, 11):
        for _ in range(3):
            words.append(single_word(chance, many))
    return words


def single_word(chance, walkers):
    """A single word to the order of so many walkers that is turned about."""
    order = list(range(walkers))
    word = []
    while rising := [k for k in range(walkers - 1) if order[k] < order[k + 1]]:
        k = chance.choice(rising)
        order[k:k + 2] = order[k + 1], order[k]
        word.append(k)
    return tuple(word)


def partitions(many):
    """Kinds of so many walkers, one for each way in which they may be alike."""
    found = [()]
    for _ in range(many):
        found = [kinds + (kind,) for kinds in found for kind in range(max(kinds, default=-1) + 2)]
    return found


def words_between(word, moves):
    """The word, and the words behind each of the moves, one behind the other."""
    words = [word]
    for move in moves:
        words.append(word_moved(words[-1], (move,)))
    return words


def names_of(moves):
    return {move[0] for move in moves}


def slowly_moved(word, move):
    """The word behind a move that has the form of one; None where it can't be done."""
    name, i = move[0], move[1]
    letters = dict(enumerate(word))
    if name == "come":
        k = move[2]
        return word[:i] + (k, k) + word[i:] if i in range(len(word) + 1) and k in range(9) else None
    if i not in letters or i + 1 not in letters:
        return None
    one, other = letters[i], letters[i + 1]
    if name == "gone":
        return word[:i] + word[i + 2:] if one == other else None
    if name == "far":
        return word[:i] + (other, one) + word[i + 2:] if other not in (one - 1, one, one + 1) else None
    if i + 2 not in letters or letters[i + 2] != one or other not in (one - 1, one + 1):
        return None
    return word[:i] + (other, one, other) + word[i + 3:]


class WordMoved(unittest.TestCase):
    def refused(self, word, moves, at):
        for row in (tuple(moves), list(moves)):
            for _ in range(2):
                with self.assertRaises(NoMove) as caught:
                    word_moved(word, row)
                self.assertEqual(caught.exception.at, at)
                self.assertIs(type(caught.exception.at), int)

    def told(self, word, moves, due):
        before = list(moves)
        for row in (tuple(moves), list(moves)):
            self.assertEqual(word_moved(word, row), due)
            self.assertIs(type(word_moved(word, row)), tuple)
            self.assertEqual(list(row), before)

    def test_each_move_of_short_words(self):
        for many in range(5):
            for word in itertools.product(range(4), repeat=many):
                for i in range(-2, many + 3):
                    for move in (("far", i), ("turn", i), ("gone", i), ("come", i, 0), ("come", i, 8)):
                        due = slowly_moved(word, move)
                        if due is None:
                            self.refused(word, (move,), 0)
                        else:
                            self.told(word, (move,), due)

    def test_without_moves(self):
        for word in ((), (3,), (0, 1, 0), (8,) * 60):
            self.told(word, (), word)

    def test_far(self):
        self.told((0, 2, 5), (("far", 0),), (2, 0, 5))
        self.told((0, 2, 5), (("far", 1),), (0, 5, 2))
        self.told((8, 0), (("far", 0),), (0, 8))
        for word in ((0, 0), (0, 1), (1, 0)):
            self.refused(word, (("far", 0),), 0)
        for i in (-1, -2, -3, 2, 3, GREAT, -GREAT):
            self.refused((0, 2, 5), (("far", i),), 0)
        self.refused((), (("far", 0),), 0)
        self.refused((4,), (("far", 0),), 0)

    def test_turn(self):
        self.told((0, 1, 0, 1), (("turn", 0),), (1, 0, 1, 1))
        self.told((0, 1, 0, 1), (("turn", 1),), (0, 0, 1, 0))
        self.told((8, 7, 8), (("turn", 0),), (7, 8, 7))
        for word in ((0, 0, 0), (0, 1, 1), (0, 0, 1), (0, 1, 2), (0, 2, 0), (2, 0, 2), (1, 0, 2), (0, 1), ()):
            self.refused(word, (("turn", 0),), 0)
        for i in (-1, -2, -3, -4, 2, 3, 4, GREAT, -GREAT):
            self.refused((0, 1, 0, 1), (("turn", i),), 0)

    def test_gone(self):
        self.told((3, 3, 1, 1), (("gone", 0),), (1, 1))
        self.told((3, 3, 1, 1), (("gone", 2),), (3, 3))
        self.told((3, 3, 1, 1), (("gone", 2), ("gone", 0)), ())
        for i in (-1, -2, -4, 1, 3, 4, GREAT, -GREAT):
            self.refused((3, 3, 1, 1), (("gone", i),), 0)
        for word in ((), (3,), (3, 1), (3, 4), (3, 1, 3)):
            self.refused(word, (("gone", 0),), 0)

    def test_come(self):
        self.told((), (("come", 0, 0),), (0, 0))
        self.told((5, 6), (("come", 0, 8),), (8, 8, 5, 6))
        self.told((5, 6), (("come", 1, 7),), (5, 7, 7, 6))
        self.told((5, 6), (("come", 2, 0),), (5, 6, 0, 0))
        for i in (-1, -2, -3, 3, 4, GREAT, -GREAT):
            self.refused((5, 6), (("come", i, 0),), 0)
        for k in (-1, 9, 10, GREAT, -GREAT):
            for i in range(3):
                self.refused((5, 6), (("come", i, k),), 0)

    def test_things_that_are_no_moves(self):
        for thing in NO_MOVES:
            for word in ((), (0, 2), (0, 0), (0, 1, 0), (0, 2, 0, 0)):
                self.refused(word, (thing,), 0)
                self.refused(word, (("come", 0, 5), thing, ("gone", 0)), 1)
                self.refused(word, (("come", 0, 5), ("gone", 0), thing), 2)

    def test_the_first_that_cannot_be_done(self):
        self.refused((0, 2), (("far", 0), ("far", 1), None), 1)
        self.refused((0, 2), (("far", 0), ("far", 0), ("gone", 0)), 2)
        self.refused((0, 1, 0), (("turn", 0), ("turn", 0), ("turn", 0), ("turn", 1)), 3)
        self.refused((1, 1), (("gone", 0), ("gone", 0)), 1)

    def test_one_behind_the_other(self):
        self.told((0, 1, 0, 2), (("far", 2), ("far", 2), ("turn", 0)), (1, 0, 1, 2))
        self.told((0, 1, 0, 1), (("turn", 0), ("gone", 2), ("come", 2, 4), ("far", 1)), (1, 4, 0, 4))

    def test_letters_of_any_size_stay(self):
        self.told((GREAT, 0, -GREAT), (("far", 0), ("far", 1)), (0, -GREAT, GREAT))
        self.refused((GREAT, GREAT + 1), (("far", 0),), 0)

    def test_by_name(self):
        self.assertEqual(word_moved(moves=(("far", 0),), word=(0, 2)), (2, 0))


class WearDown(unittest.TestCase):
    def held(self, word):
        told = wear_down(word)
        self.assertEqual(told, wear_down(word=word))
        normal, moves = told
        self.assertEqual([type(thing) for thing in (told, normal, moves)], [tuple] * 3)
        self.assertEqual(normal, normal_word(swaps(word, needed(word))[0]))
        self.assertEqual(word_moved(word, moves), normal)
        allowed = {"far", "turn"} if is_single(word) else {"far", "turn", "gone"}
        self.assertLessEqual(names_of(moves), allowed)

    def test_all_short_words(self):
        for word in short_words():
            self.held(word)

    def test_long_words(self):
        for word in long_words():
            self.held(word)

    def test_all_forward_words(self):
        for words in forward_words((4, 3, 2, 1, 0)).values():
            for word in words:
                self.assertLessEqual(names_of(wear_down(word)[1]), {"far", "turn"})
                self.held(word)

    def test_a_normal_word_is_worn_already(self):
        for order in itertools.permutations(range(5)):
            self.assertEqual(wear_down(normal_word(order)), (normal_word(order), ()))

    def test_written_out(self):
        self.assertEqual(wear_down(()), ((), ()))
        self.assertEqual(wear_down((4,)), ((4,), ()))
        self.assertEqual(wear_down((4, 4)), ((), (("gone", 0),)))
        self.assertEqual(wear_down((2, 0)), ((0, 2), (("far", 0),)))
        self.assertEqual(wear_down((1, 0, 1)), ((0, 1, 0), (("turn", 0),)))

    def test_each_word_between_swaps_no_others(self):
        for word in short_words():
            for between in words_between(word, wear_down(word)[1]):
                self.assertLessEqual(swapping(between, 4), swapping(word, 4))


class JoinWords(unittest.TestCase):
    def held(self, one, other):
        moves = join_words(one, other)
        self.assertIs(type(moves), tuple)
        words = words_between(one, moves)
        self.assertEqual(words[-1], other)
        if is_single(one) and is_single(other):
            self.assertLessEqual(names_of(moves), {"far", "turn"})
            self.assertIs(moves_hold(one, other, moves), True)
        self.assertIs(moves_hold(one, other, moves, freely=True), True)
        many = needed(one, other)
        # Kinds of which just two walkers are alike that change places in neither
        # of both words: by these each word between must be free, so they don't
        # change places in it; then it is free by all others as well.
        both = swapping(one, many) | swapping(other, many)
        for between in words:
            self.assertLessEqual(swapping(between, many), both)

    def refused(self, one, other, at):
        for first, second in ((one, other), (other, one)):
            for _ in range(2):
                with self.assertRaises(NoOrder) as caught:
                    join_words(first, second)
                self.assertEqual(caught.exception.at, at)
                self.assertIs(type(caught.exception.at), int)

    def alike(self, words):
        """The words by the orders that they lead to."""
        found = {}
        for word in words:
            found.setdefault(swaps(word, 4)[0], []).append(word)
        return list(found.values())

    def test_all_words_of_up_to_four_letters(self):
        for words in self.alike([word for word in short_words() if len(word) <= 4]):
            for one, other in itertools.product(words, repeat=2):
                self.held(one, other)

    def test_each_short_word_and_some_others(self):
        for words in self.alike(short_words()):
            for at, one in enumerate(words):
                self.held(one, words[0])
                self.held(one, words[at // 2])
                self.held(one, words[-1 - at])

    def test_free_by_kinds_by_which_both_are(self):
        for words in self.alike([word for word in short_words() if len(word) <= 4]):
            for one, other in itertools.product(words[:6], words):
                between = words_between(one, join_words(one, other))
                for kinds in partitions(4):
                    if is_free(kinds, one) and is_free(kinds, other):
                        self.assertTrue(all(is_free(kinds, word) for word in between))

    def test_long_words(self):
        chance = random.Random(7)
        for word in long_words():
            normal = wear_down(word)[0]
            self.held(word, normal)
            self.held(normal, word)
            self.held(word, word)
            other = list(word)
            for _ in range((60 - len(word)) // 2):
                at, k = chance.randint(0, len(other)), chance.randint(0, 8)
                other[at:at] = [k, k]
            self.held(word, tuple(other))
            self.held(tuple(other), word)

    def test_long_single_words(self):
        chance = random.Random(8)
        for walkers in range(7, 11):
            words = [single_word(chance, walkers) for _ in range(4)]
            for one, other in itertools.permutations(words, 2):
                self.held(one, other)

    def test_words_to_unlike_orders(self):
        for one, other in itertools.product([word for word in short_words() if len(word) <= 3], repeat=2):
            many = needed(one, other)
            orders = [swaps(word, many)[0] for word in (one, other)]
            unlike = [at for at in range(many) if orders[0][at] != orders[1][at]]
            if unlike:
                self.refused(one, other, unlike[0])
            else:
                self.held(one, other)

    def test_unlike_where_one_word_does_not_reach(self):
        self.refused((), (8,), 8)
        self.refused((0,), (8,), 0)
        self.refused((3, 3), (5,), 5)
        self.refused((0, 1, 2), (0, 1), 2)
        self.refused((0, 1, 0, 4), (1, 0, 1), 4)
        self.refused(tuple(range(9)) * 6, tuple(range(9)) * 6 + (8,), 8)

    def test_written_out(self):
        self.assertEqual(join_words((), ()), ())
        self.assertEqual(join_words((), (3, 3)), (("come", 0, 3),))
        self.assertEqual(join_words(other=(), one=(3, 3)), (("gone", 0),))
        self.assertEqual(join_words((1, 0, 1), (0, 1, 0)), (("turn", 0),))
        self.assertEqual(join_words((0, 2), (2, 0)), (("far", 0),))


class MovesHold(unittest.TestCase):
    def test_right_moves(self):
        self.assertIs(moves_hold((), (), ()), True)
        self.assertIs(moves_hold((0, 2), (2, 0), (("far", 0),)), True)
        self.assertIs(moves_hold((0, 1, 0), (1, 0, 1), (("turn", 0),)), True)
        self.assertIs(moves_hold((0, 2), (0, 2), (("far", 0), ("far", 0))), True)
        self.assertIs(moves_hold((2, 0, 1, 0), (1, 2, 0, 1), (("turn", 1), ("turn", 0))), False)
        self.assertIs(moves_hold((2, 0, 1, 0), (0, 2, 1, 0), (("far", 0),)), True)

    def test_without_moves(self):
        for one, other in itertools.product(((), (0,), (0, 1), (0, 0)), repeat=2):
            for freely in (False, True):
                self.assertIs(moves_hold(one, other, (), freely=freely), one == other)

    def test_gone_and_come_where_they_may_be(self):
        cases = (
            ((3, 3), (), (("gone", 0),)),
            ((), (3, 3), (("come", 0, 3),)),
            ((1,), (1,), (("come", 1, 4), ("gone", 1))),
            ((0, 2), (2, 0), (("come", 0, 4), ("far", 2), ("gone", 0))),
            ((2, 0), (2, 0), (("far", 0), ("far", 0), ("come", 2, 8), ("gone", 2))),
        )
        for one, other, moves in cases:
            self.assertIs(moves_hold(one, other, moves, freely=True), True)
            self.assertIs(moves_hold(one, other, moves, freely=False), False)
            self.assertIs(moves_hold(one, other, moves), False)

    def test_one_thing_otherwise(self):
        chance = random.Random(9)
        for _ in range(6):
            one, other = single_word(chance, 6), single_word(chance, 6)
            moves = join_words(one, other)
            for freely in (False, True):
                self.assertIs(moves_hold(one, other, moves, freely=freely), True)
            for at, (name, i) in enumerate(moves):
                others = [(name, i + 1), (name, i - 1), (name,), (name, i, 0), ("gone", i), None, ("come", i, 0)]
                others.append(("turn" if name == "far" else "far", i))
                for move in others:
                    self.held(one, other, swapped(moves, at, move))
                self.held(one, other, moves[:at] + moves[at + 1:])
                self.held(one, other, moves[:at] + (moves[at],) + moves[at:])

    def held(self, one, other, moves):
        """Hold the answers against doing move by move."""
        try:
            led = word_moved(one, moves) == other
        except NoMove:
            led = False
        plain = all(move[0] in ("far", "turn") for move in moves) if led else False
        self.assertIs(moves_hold(one, other, moves, freely=True), led)
        self.assertIs(moves_hold(one, other, moves), plain)

    def test_another_word_behind(self):
        moves = (("far", 0), ("turn", 1))
        self.assertIs(moves_hold((0, 3, 2, 3), (3, 0, 2, 3), (("far", 0),)), True)
        self.assertIs(moves_hold((2, 0, 1, 0), (0, 2, 1, 0), moves), False)
        for other in ((), (3,), (3, 0, 2), (3, 0, 2, 3, 3), (0, 3, 2, 3), (3, 0, 2, 4)):
            self.assertIs(moves_hold((0, 3, 2, 3), other, (("far", 0),)), False)
            self.assertIs(moves_hold((0, 3, 2, 3), other, (("far", 0),), freely=True), False)

    def test_things_that_are_no_tuples_of_moves(self):
        things = [thing for thing in NO_MOVES if thing != ()]
        things += ["farturn", ("far", "far"), (("far", 0), None), (None,), ((),), (("far", 0), ()), [("far", 0)], []]
        for thing in things:
            for one, other in (((), ()), ((0, 2), (2, 0)), ((0, 0), ()), ((), (0, 0)), ((1, 1), (1, 1))):
                if (one, other, thing) != ((0, 2), (2, 0), (("far", 0),)):
                    for freely in (False, True):
                        self.assertIs(moves_hold(one, other, thing, freely=freely), False, thing)

    def test_no_moves_among_right_ones(self):
        for thing in NO_MOVES:
            for freely in (False, True):
                self.assertIs(moves_hold((0, 2), (0, 2), (("far", 0), thing, ("far", 0)), freely=freely), False)
                self.assertIs(moves_hold((0, 2), (2, 0), (("far", 0), thing), freely=freely), False)
                self.assertIs(moves_hold((0, 2), (2, 0), (thing, ("far", 0)), freely=freely), False)

    def test_numbers_of_great_size(self):
        for name in ("far", "turn", "gone"):
            for i in (GREAT, -GREAT):
                self.assertIs(moves_hold((0, 2), (2, 0), ((name, i),), freely=True), False)
        self.assertIs(moves_hold((), (0, 0), (("come", GREAT, 0),), freely=True), False)
        self.assertIs(moves_hold((), (0, 0), (("come", 0, GREAT),), freely=True), False)

    def test_a_second_word_of_eighty_letters(self):
        one = (0, 2) * 30
        other = (8, 8) * 10 + one
        moves = (("come", 0, 8),) * 10
        self.assertIs(moves_hold(one, other, moves, freely=True), True)
        self.assertIs(moves_hold(one, other, moves), False)
        self.assertIs(moves_hold(one, other, moves[1:], freely=True), False)

    def test_freely_by_name_alone(self):
        with self.assertRaises(TypeError):
            moves_hold((3, 3), (), (("gone", 0),), True)
        self.assertIs(moves_hold(freely=True, moves=(("gone", 0),), other=(), one=(3, 3)), True)


if __name__ == "__main__":
    unittest.main()
