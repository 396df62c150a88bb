"""Books for the tests, built without the program's own makers."""

GREAT = 10 ** 6000


def two_kinds(count):
    """All (u, v), u above v, in the order of a book's tables."""
    return [(u, v) for u in range(count) for v in range(u)]


def book_of(paces, sorts, pair_of):
    """The book whose pair of (u, v) at (a, b) is pair_of(u, v, a, b)."""
    tables = []
    for u, v in two_kinds(len(paces)):
        table = []
        for a in range(sorts):
            for b in range(sorts):
                table.append(pair_of(u, v, a, b))
        tables.append(tuple(table))
    return (tuple(paces), sorts, tuple(tables))


def mixed_book(paces, sorts, seed=0):
    """A book whose tables are unlike one another and follow no maker."""
    def pair_of(u, v, a, b):
        mark = (seed + 1) * 7919 + u * 1009 + v * 331 + a * 97 + b * 53
        mark = mark * mark + 17
        return (mark // 7 % sorts, mark // 59 % sorts)

    return book_of(paces, sorts, pair_of)


PACES = (
    (0,),
    (-1000,),
    (1000,),
    (-1000, 1000),
    (-3, 2),
    (999, 1000),
    (-1000, -999, 0),
    (1, 4, 6, 11),
    (-1000, -7, 0, 8, 1000),
)


def all_mixed():
    """Mixed books of 1 to 5 kinds and 1 to 6 sorts."""
    return [mixed_book(paces, sorts, seed=sorts) for paces in PACES for sorts in range(1, 7)]


def swapped(things, at, thing):
    """A tuple with another thing at one of its places."""
    new = list(things)
    new[at] = thing
    return tuple(new)
