"""Words, orders and rows followed by plain means, to hold the program's answers against."""

from fractions import Fraction

from wherefrom.makers import both_books, folding, keeping, renamed, sorting, staying, turning
from samples import mixed_book, two_kinds


def swaps(word, many):
    """The order behind a word of so many walkers, and for each letter (rear walker, fore walker)."""
    order = list(range(many))
    pairs = []
    for k in word:
        pairs.append((order[k], order[k + 1]))
        order[k:k + 2] = order[k + 1], order[k]
    return tuple(order), pairs


def needed(*words):
    """How many walkers the words need."""
    return max([k + 2 for word in words for k in word], default=0)


def is_single(word):
    """Whether no two walkers change places twice in the word."""
    pairs = [frozenset(pair) for pair in swaps(word, needed(word))[1]]
    return len(set(pairs)) == len(pairs)


def swapping(word, many):
    """The twos of walkers that change places in the word."""
    return {frozenset(pair) for pair in swaps(word, many)[1]}


def is_free(kinds, word):
    """Whether at each letter the two kinds are unlike."""
    return all(kinds[i] != kinds[j] for i, j in swaps(word, len(kinds))[1])


def forward_words(kinds):
    """All forward words of the kinds, by the orders that they lead to."""
    start = tuple(range(len(kinds)))
    found = {start: [()]}
    waiting = [start]
    for order in waiting:
        for k in range(len(order) - 1):
            if kinds[order[k]] > kinds[order[k + 1]]:
                behind = order[:k] + (order[k + 1], order[k]) + order[k + 2:]
                if behind not in found:
                    found[behind] = []
                    waiting.append(behind)
                found[behind] += [word + (k,) for word in found[order]]
    return found


def made_of(book, u, v, a, b):
    """The pair of (a, b) in the book's table of u and v."""
    return book[2][two_kinds(5).index((u, v))][a * book[1] + b]


def follow(book, row, word):
    """The row behind a word that is forward."""
    kinds = [kind for kind, _ in row]
    burdens = [burden for _, burden in row]
    for k in word:
        assert kinds[k] > kinds[k + 1]
        burdens[k:k + 2] = made_of(book, kinds[k], kinds[k + 1], burdens[k], burdens[k + 1])
        kinds[k:k + 2] = kinds[k + 1], kinds[k]
    return tuple(zip(kinds, burdens))


def met_on(book, kinds, spots):
    """All passings (moment, i, j) of a setting out, moments as fractions, in the order of point 23."""
    paces = book[0]
    found = []
    for i, kind in enumerate(kinds):
        for j in range(i + 1, len(kinds)):
            if kind > kinds[j]:
                moment = Fraction(spots[j] - spots[i], paces[kind] - paces[kinds[j]])
                found.append((moment, -kind, -kinds[j], i, j))
    return [(moment, i, j) for moment, _, _, i, j in sorted(found)]


def stand_at(book, row, spots, beat):
    """The order, spots and row of a setting out at a beat, of each walker by itself."""
    kinds = [kind for kind, _ in row]
    burdens = [burden for _, burden in row]
    for moment, i, j in met_on(book, kinds, spots):
        if moment <= beat:
            burdens[j], burdens[i] = made_of(book, kinds[i], kinds[j], burdens[i], burdens[j])
    where = [spot + book[0][kind] * beat for spot, kind in zip(spots, kinds)]
    order = sorted(range(len(row)), key=lambda i: (where[i], kinds[i]))
    return tuple(order), tuple(where[i] for i in order), tuple((kinds[i], burdens[i]) for i in order)


def last_from(book, row, spots):
    """The last row of a setting out, passing by passing as points 22 to 26 tell."""
    moments = [moment for moment, _, _ in met_on(book, [kind for kind, _ in row], spots)]
    return stand_at(book, row, spots, max(moments, default=0).__ceil__())[2]


def ups(many, seed=0):
    """Steps for the tables of so many kinds."""
    return tuple((seed + 5 * u - 3 * v, seed * u - v - 1) for u, v in two_kinds(many))


RISING = ((0,), (0, 3), (-2, 0, 5), (-1000, 0, 1, 1000), (1, 2, 3, 4, 5))


def good_books(many=5, sorts=6):
    """Books of each maker that are good, of at most so many kinds and sorts."""
    found = []
    for paces in RISING[:many]:
        for each in range(1, sorts + 1):
            found += [maker(paces, sorts=each) for maker in (keeping, staying, sorting, folding)]
            found.append(turning(paces, ups(len(paces), each), sorts=each))
        if sorts >= 4:
            found.append(both_books(sorting(paces, sorts=2), turning(paces, ups(len(paces)), sorts=2)))
        if sorts >= 3:
            found.append(renamed(sorting(paces, sorts=3), (2, 0, 1)))
    return found


def other_books(many=5, sorts=6):
    """Books that follow no maker, of at most so many kinds and sorts."""
    return [
        mixed_book(paces, each, seed)
        for paces in RISING[:many] for each in range(1, sorts + 1) for seed in range(3)
    ]


def some_row(book, many, seed=0):
    """A row of so many walkers by the book, quicker ones mostly behind."""
    kinds, sorts = len(book[0]), book[1]
    marks = [(seed + 3) * (k + 1) * (k + 5) + k for k in range(many)]
    row = [(mark % kinds, mark // 3 % sorts) for mark in marks]
    return tuple(sorted(row, key=lambda walker: -walker[0]) if seed % 2 else row)
