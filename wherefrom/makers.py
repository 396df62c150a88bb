"""Books made by a rule, out of two books, or by new names of burdens."""

from wherefrom.books import tables_due
from wherefrom.errors import NoBook


def keeping(paces, *, sorts):
    """The book by which each walker keeps its own burden."""
    return alike_book(paces, sorts, lambda a, b: (b, a))


def staying(paces, *, sorts):
    """The book by which the burdens stay at their places."""
    return alike_book(paces, sorts, lambda a, b: (a, b))


def sorting(paces, *, sorts):
    """The book by which the lesser burden comes to the rear place."""
    return alike_book(paces, sorts, lambda a, b: (min(a, b), max(a, b)))


def folding(paces, *, sorts):
    """The book by which the rear burden is folded over the fore one."""
    return alike_book(paces, sorts, lambda a, b: (b, (2 * b - a) % sorts))


def turning(paces, steps, *, sorts):
    """The book by which burdens are kept, but go on by each table's steps."""
    return (paces, sorts, tuple([turned_table(sorts, d, e) for d, e in steps]))


def alike_book(paces, sorts, pair_of):
    """The book all of whose tables have the pairs that pair_of tells."""
    table = made_table(sorts, pair_of)
    return (paces, sorts, (table,) * tables_due(len(paces)))


def made_table(sorts, pair_of):
    """The table whose pair of each a and b is what pair_of tells."""
    return tuple([pair_of(a, b) for a in range(sorts) for b in range(sorts)])


def turned_table(sorts, d, e):
    """The table by which the rear burden goes on by d, the fore one by e."""
    return made_table(sorts, lambda a, b: ((b + e) % sorts, (a + d) % sorts))


def both_books(one, other):
    """Two books of the same paces side by side, as one book."""
    paces, sorts, tables = one
    other_paces, other_sorts, other_tables = other
    look_same_paces(paces, other_paces)
    both = [
        both_tables(table, sorts, other_table, other_sorts)
        for table, other_table in zip(tables, other_tables)
    ]
    return (paces, sorts * other_sorts, tuple(both))


def look_same_paces(paces, other_paces):
    """Refuse paces that are unlike, at the first kind that is."""
    shared = min(len(paces), len(other_paces))
    for k in range(shared):
        if paces[k] != other_paces[k]:
            raise NoBook("paces", k)
    if len(paces) != len(other_paces):
        raise NoBook("paces", shared)


def both_tables(table, sorts, other_table, other_sorts):
    """The table by which two burdens in one go over each by its own table."""
    def pair_of(rear, fore):
        rear_one, rear_other = divmod(rear, other_sorts)
        fore_one, fore_other = divmod(fore, other_sorts)
        c, d = table[rear_one * sorts + fore_one]
        e, f = other_table[rear_other * other_sorts + fore_other]
        return (c * other_sorts + e, d * other_sorts + f)

    return made_table(sorts * other_sorts, pair_of)


def renamed(book, names):
    """The book in which each burden a is called names[a]."""
    paces, sorts, tables = book
    return (paces, sorts, tuple([renamed_table(table, sorts, names) for table in tables]))


def renamed_table(table, sorts, names):
    """The table of the new names, before and behind the passing."""
    def pair_of(rear, fore):
        c, d = table[names.index(rear) * sorts + names.index(fore)]
        return (names[c], names[d])

    return made_table(sorts, pair_of)
