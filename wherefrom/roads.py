"""Roads: settings out, their passings, and who is where with what at a beat and at last."""

from wherefrom.books import is_number
from wherefrom.doing import led_by
from wherefrom.errors import NoSpots
from wherefrom.words import kinds_of, order_behind


def look_spots(kinds, spots):
    """True of as many rising spots as kinds; of anything else NoSpots, the first that is amiss."""
    if not isinstance(spots, tuple):
        raise NoSpots(0)
    if len(spots) != len(kinds):
        raise NoSpots(min(len(spots), len(kinds)))
    for at, spot in enumerate(spots):
        if not is_number(spot) or (at > 0 and spot <= spots[at - 1]):
            raise NoSpots(at)
    return True


def passings(book, kinds, spots):
    """All passings (moment, i, j) of a setting out, in their order."""
    paces = book[0]
    many = len(kinds)
    meetings = [
        (spots[j] - spots[i], paces[kinds[i]] - paces[kinds[j]], i, j)
        for i in range(many) for j in range(i + 1, many) if kinds[i] > kinds[j]
    ]
    return in_told_order(kinds, meetings)


def in_told_order(kinds, meetings):
    """The passings, in their order, of meetings (way, gap, i, j).

    In one of them i is so long a way behind j, and nears j by the gap each beat.
    """
    # Moments are compared as whole numbers of a part of a beat that measures all of them.
    parts = common_multiple([gap for way, gap, i, j in meetings])
    turns = sorted([(way * (parts // gap), -kinds[i], -kinds[j], i, j) for way, gap, i, j in meetings])
    return tuple([(moment_of(when, parts), i, j) for when, less_u, less_v, i, j in turns])


def common_multiple(numbers):
    """The least common multiple of whole numbers from 1 on."""
    multiple = 1
    for number in numbers:
        multiple = multiple // common_divisor(multiple, number) * number
    return multiple


def common_divisor(one, other):
    """The greatest common divisor of two whole numbers from 0 on, not both 0."""
    while other > 0:
        one, other = other, one % other
    return one


def moment_of(upper, lower):
    """The moment upper / lower as a pair without a common divisor above 1."""
    divisor = common_divisor(upper, lower)
    return (upper // divisor, lower // divisor)


def is_done_by(moment, beat):
    """Whether what is done at the moment is done by the beat."""
    upper, lower = moment
    return upper <= beat * lower


def word_by(book, kinds, spots, *, beat):
    """The word of the passings that are done by the beat."""
    order = list(range(len(kinds)))
    word = []
    for moment, i, j in passings(book, kinds, spots):
        if is_done_by(moment, beat):
            k = order.index(i)
            order[k], order[k + 1] = j, i
            word.append(k)
    return tuple(word)


def order_by(book, kinds, spots, *, beat):
    """The order at the beat."""
    return order_behind(kinds, word_by(book, kinds, spots, beat=beat))


def spots_by(book, kinds, spots, *, beat):
    """The spots at the beat, by places."""
    paces = book[0]
    order = order_by(book, kinds, spots, beat=beat)
    return tuple([spots[i] + paces[kinds[i]] * beat for i in order])


def row_by(book, row, spots, *, beat):
    """The row at the beat."""
    return led_by(book, row, word_by(book, kinds_of(row), spots, beat=beat))


def settled_at(book, kinds, spots):
    """The least beat from 0 on at which all passings are done."""
    found = passings(book, kinds, spots)
    if not found:
        return 0
    upper, lower = found[-1][0]
    return -(-upper // lower)


def row_at_last(book, row, spots):
    """The row when all passings are done."""
    return row_by(book, row, spots, beat=settled_at(book, kinds_of(row), spots))
