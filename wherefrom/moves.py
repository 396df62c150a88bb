"""Moves of words: done, told from one word to another, and looked at."""

from wherefrom.books import is_tuple_of, is_whole
from wherefrom.errors import NoMove, NoOrder
from wherefrom.words import free_order

MOST_LETTER = 8


def word_moved(word, moves):
    """The word behind a row of moves; NoMove at the first that can't be done."""
    for at, move in enumerate(moves):
        word = once_moved(word, move)
        if word is None:
            raise NoMove(at)
    return word


def once_moved(word, move):
    """The word behind one move; None where it can't be done, or is no move."""
    if is_tuple_of(move, 3) and move[0] == "come":
        return with_two_more(word, move[1], move[2])
    if not is_tuple_of(move, 2) or not is_whole(move[1], 0, len(word) - 2):
        return None
    name, i = move
    if name == "far":
        return with_two_exchanged(word, i)
    if name == "turn":
        return with_three_turned(word, i)
    if name == "gone":
        return with_two_fewer(word, i)
    return None


def with_two_exchanged(word, i):
    """The word behind ("far", i), or None."""
    if abs(word[i] - word[i + 1]) <= 1:
        return None
    return word[:i] + (word[i + 1], word[i]) + word[i + 2:]


def with_three_turned(word, i):
    """The word behind ("turn", i), or None."""
    if i + 2 >= len(word):
        return None
    k, other, again = word[i:i + 3]
    if k != again or abs(k - other) != 1:
        return None
    return word[:i] + (other, k, other) + word[i + 3:]


def with_two_fewer(word, i):
    """The word behind ("gone", i), or None."""
    if word[i] != word[i + 1]:
        return None
    return word[:i] + word[i + 2:]


def with_two_more(word, i, k):
    """The word behind ("come", i, k), or None."""
    if not is_whole(i, 0, len(word)) or not is_whole(k, 0, MOST_LETTER):
        return None
    return word[:i] + (k, k) + word[i:]


def wear_down(word):
    """The normal word to the order behind the word, and moves that lead there."""
    # The letters that are already worn are the first ones of the word, so moves
    # of them alone are moves of the whole word, at the same numbers.
    normal = ()
    moves = []
    for letter in word:
        taken = moves_into(normal, letter)
        normal = word_moved(normal + (letter,), taken)
        moves += taken
    return (normal, tuple(moves))


def moves_into(normal, letter):
    """Moves that make a normal word of a normal one with a letter right behind it.

    The letter goes towards the beginning, past one falling run of the normal
    word after another, till it begins a run, ends one, or meets its like.
    """
    moves = []
    end = len(normal)
    while end > 0:
        start = start_of_run(normal, end)
        least = normal[end - 1]
        if letter > normal[start] or letter == least - 1:
            return moves
        if letter == least:
            return moves + [("gone", end - 1)]
        moves += moves_past(normal, start, end, letter)
        if letter > least:
            letter -= 1
        end = start
    return moves


def start_of_run(normal, end):
    """Where the falling run of a normal word begins that ends right before the number end."""
    start = end - 1
    while start > 0 and normal[start - 1] > normal[start]:
        start -= 1
    return start


def moves_past(normal, start, end, letter):
    """Moves that bring a letter from right behind a falling run to right before it.

    Where the run has the letter and the next lesser one, they turn, and the
    letter comes out as that lesser one.
    """
    if letter < normal[end - 1]:
        return [("far", i) for i in range(end - 1, start - 1, -1)]
    like = start + normal[start] - letter
    behind = [("far", i) for i in range(end - 1, like + 1, -1)]
    ahead = [("far", i) for i in range(like - 1, start - 1, -1)]
    return behind + [("turn", like)] + ahead


def join_words(one, other):
    """Moves that lead from the one word to the other; NoOrder where they lead to unlike orders."""
    look_same_orders(one, other)
    # Wearing a word down only ever takes away passings of two walkers, so on
    # the way no two pass who don't pass in the one word or in the other.
    normal, down = wear_down(one)
    return down + moves_up(other)


def look_same_orders(one, other):
    """Refuse two words that lead to unlike orders, at the first place that is unlike."""
    many = max(one + other, default=-2) + 2
    # All unlike, so that every word is free by them.
    kinds = tuple(range(many))
    order = free_order(kinds, one)
    other_order = free_order(kinds, other)
    for at in range(many):
        if order[at] != other_order[at]:
            raise NoOrder(at)


def moves_up(word):
    """Moves that lead to the word from the normal one to the same order."""
    normal, down = wear_down(word)
    up = []
    for move in down:
        up.append(move_back(word, move))
        word = once_moved(word, move)
    return tuple(up[::-1])


def move_back(word, move):
    """The move that undoes a move of the word."""
    name, i = move
    if name == "gone":
        return ("come", i, word[i])
    return move


def moves_hold(one, other, moves, *, freely=False):
    """Whether the thing is a tuple of moves that leads from the one word to the other."""
    if not isinstance(moves, tuple):
        return False
    word = one
    for move in moves:
        moved = once_moved(word, move)
        if moved is None:
            return False
        # Only `gone` and `come` change how many letters there are.
        if len(moved) != len(word) and not freely:
            return False
        word = moved
    return word == other
