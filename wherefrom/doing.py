"""What is borne behind passings: rows led by words, and rows in an order."""

from wherefrom.books import pair_at
from wherefrom.errors import NoOrder, NoPassing
from wherefrom.words import is_letter, kinds_of, last_order, look_order, normal_word, pairs_passed


def pass_one(book, row, place):
    """The row behind the passing at the place; NoPassing(0) where it isn't forward."""
    return led_by(book, row, (place,))


def led_by(book, row, word):
    """The row behind a forward word; NoPassing at the first letter that isn't."""
    led = list(row)
    for at, k in enumerate(word):
        if not is_letter(k, len(led)):
            raise NoPassing(at)
        (u, a), (v, b) = led[k], led[k + 1]
        if u <= v:
            raise NoPassing(at)
        c, d = pair_at(book, u, v, a, b)
        led[k], led[k + 1] = (v, c), (u, d)
    return tuple(led)


def borne_in(book, row, order):
    """The row that the normal word to the order makes; NoOrder where that can't be."""
    if len(order) != len(row):
        raise NoOrder(min(len(order), len(row)))
    look_order(order)
    look_forward(kinds_of(row), order)
    return led_by(book, row, normal_word(order))


def look_forward(kinds, order):
    """Refuse an order that isn't forward, at the first who has passed one that isn't slower."""
    wrong = [i for i, j in pairs_passed(order) if kinds[i] <= kinds[j]]
    for at, number in enumerate(order):
        if number in wrong:
            raise NoOrder(at)


def last_row(book, row):
    """The row in its last order."""
    return borne_in(book, row, last_order(kinds_of(row)))
