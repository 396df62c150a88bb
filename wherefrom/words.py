"""Rows looked at; words, the orders they lead to, and the normal word to an order."""

from wherefrom.books import is_tuple_of, is_whole
from wherefrom.errors import NoOrder, NoPassing, NoRow

MOST_WALKERS = 10


def look_row(book, row):
    """True of a row by the book; of anything else NoRow, the first that is amiss."""
    if not isinstance(row, tuple) or len(row) > MOST_WALKERS:
        raise NoRow("form", 0)
    for k, walker in enumerate(row):
        look_walker(book, walker, k)
    return True


def look_walker(book, walker, k):
    """Refuse what is no walker by the book, as a row's walker number k."""
    if not is_tuple_of(walker, 2):
        raise NoRow("walker", k)
    kind, burden = walker
    if not is_whole(kind, 0, len(book[0]) - 1):
        raise NoRow("kind", k)
    if not is_whole(burden, 0, book[1] - 1):
        raise NoRow("burden", k)


def kinds_of(row):
    """The kinds of a row, by places."""
    return tuple([kind for kind, burden in row])


def burdens_of(row):
    """The burdens of a row, by places."""
    return tuple([burden for kind, burden in row])


def is_letter(k, many):
    """Whether k and k + 1 are places of a row of so many walkers."""
    return is_whole(k, 0, many - 2)


def order_behind(kinds, word):
    """The order behind a forward word; NoPassing at the first letter that isn't."""
    return order_led(kinds, word, lambda rear, fore: rear > fore)


def free_order(kinds, word):
    """The order behind a free word; NoPassing at the first letter that isn't."""
    return order_led(kinds, word, lambda rear, fore: rear != fore)


def order_led(kinds, word, may_pass):
    """The order behind a word of passings that may_pass lets by, of the rear kind and the fore one."""
    order = list(range(len(kinds)))
    for at, k in enumerate(word):
        if not is_letter(k, len(order)) or not may_pass(kinds[order[k]], kinds[order[k + 1]]):
            raise NoPassing(at)
        order[k], order[k + 1] = order[k + 1], order[k]
    return tuple(order)


def last_order(kinds):
    """The order in which all have passed: by kinds, those of one kind by their numbers."""
    return tuple(sorted(range(len(kinds)), key=lambda i: (kinds[i], i)))


def pairs_passed(order):
    """All (i, j), i below j, i standing further on than j, rising."""
    many = len(order)
    pairs = [
        (order[fore], order[rear])
        for rear in range(many) for fore in range(rear + 1, many) if order[fore] < order[rear]
    ]
    return tuple(sorted(pairs))


def is_forward(kinds, order):
    """Whether in the order quicker ones alone have passed, and slower ones alone were passed."""
    return all([kinds[i] > kinds[j] for i, j in pairs_passed(order)])


def look_order(order):
    """Refuse numbers that are no order, at the first place that is amiss."""
    for at, number in enumerate(order):
        if not is_whole(number, 0, len(order) - 1) or number in order[:at]:
            raise NoOrder(at)


def normal_word(order):
    """The normal word to the order: walker by walker goes back to its place among the lesser ones."""
    look_order(order)
    word = []
    for m in range(1, len(order)):
        further_on = order[order.index(m) + 1:]
        lesser = len([i for i in further_on if i < m])
        word += [m - 1 - step for step in range(lesser)]
    return tuple(word)
