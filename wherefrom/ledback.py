"""Led back: books that go back, passings taken away, and what rows bring the burdens that are borne."""

from wherefrom.books import pair_at, table_number, two_kinds
from wherefrom.errors import NoPassing, NoWay
from wherefrom.roads import word_by
from wherefrom.words import is_letter, order_behind


def look_back(book):
    """True of a book that goes back; else NoWay of the first table that isn't one to one."""
    paces, sorts, tables = book
    for (u, v), table in zip(two_kinds(len(paces)), tables):
        if len(set(table)) < len(table):
            raise NoWay(u, v)
    return True


def led_freely(book, row, word):
    """The row behind a free word, by passings and passings back; NoWay, then NoPassing."""
    look_back(book)
    led = list(row)
    for at, k in enumerate(word):
        if not is_letter(k, len(led)) or led[k][0] == led[k + 1][0]:
            raise NoPassing(at)
        led[k], led[k + 1] = freely_passed(book, led[k], led[k + 1])
    return tuple(led)


def freely_passed(book, rear, fore):
    """The two walkers, from the rear place on, behind their passing or passing back."""
    u, a = rear
    v, b = fore
    if u > v:
        c, d = pair_at(book, u, v, a, b)
    else:
        c, d = burdens_before(book, v, u, (a, b))[0]
    return ((v, c), (u, d))


def burdens_before(book, u, v, pair):
    """All burdens (a, b) of which the passing of the kinds u and v makes the pair, rising."""
    sorts, tables = book[1], book[2]
    table = tables[table_number(u, v)]
    return [divmod(at, sorts) for at, made in enumerate(table) if made == pair]


def rows_ahead(book, kinds, word, burdens):
    """All burdens at the beginning of which the forward word makes these, rising; NoPassing."""
    # Refuses before anything is led back: the first letter that is wrong counts.
    order_behind(kinds, word)
    at_turns = kinds_at_turns(kinds, word)
    found = [burdens]
    for k, u, v in reversed(at_turns):
        found = [
            borne[:k] + before + borne[k + 2:]
            for borne in found for before in burdens_before(book, u, v, borne[k:k + 2])
        ]
    return tuple(sorted(found))


def kinds_at_turns(kinds, word):
    """For each letter k of a forward word (k, the kind that passes, the kind that is passed)."""
    led = list(kinds)
    turns = []
    for k in word:
        u, v = led[k], led[k + 1]
        turns.append((k, u, v))
        led[k], led[k + 1] = v, u
    return turns


def led_back(book, kinds, spots, burdens, *, beat):
    """All burdens at the setting out of which these came by the beat, rising."""
    return rows_ahead(book, kinds, word_by(book, kinds, spots, beat=beat), burdens)
