"""Books judged: good, or parted, and then two settings out that show it."""

from wherefrom.doing import led_by, pass_one
from wherefrom.words import burdens_of

# By any two paces of a book walkers that are 1 apart meet in at most one beat,
# and walkers that are 9,999 apart, drawing near by at most 2,000, later.
REAR_FIRST = (0, 1, 10000)
FORE_FIRST = (0, 9999, 10000)


def both_ways(book, kinds, burdens):
    """The burdens of three walkers behind the word (0, 1, 0), and behind (1, 0, 1)."""
    row = tuple(zip(kinds, burdens))
    rear_first = led_by(book, row, (0, 1, 0))
    fore_first = led_by(book, row, (1, 0, 1))
    return (burdens_of(rear_first), burdens_of(fore_first))


def falling_threes(many):
    """All kinds (u, v, w), u above v above w, of so many kinds, rising."""
    return [(u, v, w) for u in range(many) for v in range(u) for w in range(v)]


def burden_threes(sorts):
    """All burdens (a, b, c) of so many sorts, rising."""
    return [(a, b, c) for a in range(sorts) for b in range(sorts) for c in range(sorts)]


def judge_book(book):
    """("good", how many threes), or ("parted", kinds, burdens), the first that part."""
    paces, sorts, tables = book
    kind_threes = falling_threes(len(paces))
    threes = burden_threes(sorts)
    for kinds in kind_threes:
        for burdens in threes:
            rear_first, fore_first = both_ways(book, kinds, burdens)
            if rear_first != fore_first:
                return ("parted", kinds, burdens)
    return ("good", len(kind_threes) * len(threes))


def ends_of(book, row):
    """All burdens, by places, that forward words bring in the row's last order, rising."""
    # Each passing leaves one fewer to be done, whichever it is: so all rows
    # of one round have as many still to come, and are in the last order together.
    rows = [row]
    further = rows_one_on(book, rows)
    while further:
        rows = further
        further = rows_one_on(book, rows)
    return tuple(sorted([burdens_of(last) for last in rows]))


def rows_one_on(book, rows):
    """All rows, each once, that one passing makes of one of these."""
    found = {}
    for row in rows:
        for k in range(len(row) - 1):
            if row[k][0] > row[k + 1][0]:
                found[pass_one(book, row, k)] = True
    return list(found)


def parting(book):
    """None of a good book; else a row, and two rows of spots from which the last rows are unlike."""
    judged = judge_book(book)
    if judged[0] == "good":
        return None
    kinds, burdens = judged[1], judged[2]
    return (tuple(zip(kinds, burdens)), REAR_FIRST, FORE_FIRST)
