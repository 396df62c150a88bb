"""Books of tables: looked at, asked for a pair, told with another pair."""

from wherefrom.errors import NoBook

MOST_KINDS = 5
MOST_SORTS = 6
MOST_PACE = 1000


def is_number(thing):
    """Whether the thing is a whole number, of any size."""
    # Python counts True and False among the ints, the document does not.
    return isinstance(thing, int) and not isinstance(thing, bool)


def is_whole(thing, least, most):
    """Whether the thing is a whole number from least to most."""
    return is_number(thing) and least <= thing <= most


def is_tuple_of(thing, many):
    """Whether the thing is a tuple of so many things."""
    return isinstance(thing, tuple) and len(thing) == many


def table_number(u, v):
    """Where the table of the kinds u above v stands among a book's tables."""
    return u * (u - 1) // 2 + v


def two_kinds(many):
    """All kinds (u, v), u above v, of so many kinds, in the order of a book's tables."""
    return [(u, v) for u in range(many) for v in range(u)]


def tables_due(kinds):
    """How many tables a book of so many kinds has."""
    return kinds * (kinds - 1) // 2


def look_book(book):
    """True of a book; of anything else NoBook, the first that is amiss."""
    if not is_tuple_of(book, 3):
        raise NoBook("form", 0)
    paces, sorts, tables = book
    look_paces(paces)
    if not is_whole(sorts, 1, MOST_SORTS):
        raise NoBook("sorts", 0)
    if not is_tuple_of(tables, tables_due(len(paces))):
        raise NoBook("tables", 0)
    for k, table in enumerate(tables):
        look_table(table, k, sorts)
    return True


def look_paces(paces):
    """Refuse what is no tuple of rising paces."""
    if not isinstance(paces, tuple) or not 1 <= len(paces) <= MOST_KINDS:
        raise NoBook("paces", 0)
    least = -MOST_PACE
    for k, pace in enumerate(paces):
        if not is_whole(pace, least, MOST_PACE):
            raise NoBook("paces", k)
        least = pace + 1


def look_table(table, k, sorts):
    """Refuse what is no table of so many sorts, as a book's table number k."""
    due = sorts * sorts
    if not is_tuple_of(table, due):
        raise NoBook("table", k)
    for n, pair in enumerate(table):
        if not is_pair(pair, sorts):
            raise NoBook("pair", k * due + n)


def is_pair(thing, sorts):
    """Whether the thing is a pair of sorts, there being so many of these."""
    if not is_tuple_of(thing, 2):
        return False
    first, second = thing
    return is_whole(first, 0, sorts - 1) and is_whole(second, 0, sorts - 1)


def pair_at(book, u, v, a, b):
    """What the book's table of the kinds u above v makes of a and b."""
    sorts, tables = book[1], book[2]
    return tables[table_number(u, v)][a * sorts + b]


def with_pair(book, u, v, a, b, pair):
    """The book with another pair at a and b in its table of u above v."""
    paces, sorts, tables = book
    number = table_number(u, v)
    table = put_in(tables[number], a * sorts + b, pair)
    return (paces, sorts, put_in(tables, number, table))


def put_in(things, at, thing):
    """The tuple of things with another thing at one place of it."""
    return things[:at] + (thing,) + things[at + 1:]
