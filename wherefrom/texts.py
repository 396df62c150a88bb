"""Texts of books and of settings out: shown and read."""

from wherefrom.books import MOST_PACE, MOST_SORTS, is_pair, look_paces, two_kinds
from wherefrom.errors import NoBook, NoText
from wherefrom.words import MOST_WALKERS

MOST_SPOT = 4 * 10 ** 18
MOST_FIGURES = 19


def number_in(word, least, most):
    """The whole number from least to most that the word writes, or None."""
    figures = word.removeprefix("-")
    # Python refuses to read thousands of figures, so they are counted first.
    if len(figures) > MOST_FIGURES or not figures.isascii() or not figures.isdigit():
        return None
    number = int(word)
    if str(number) != word or not least <= number <= most:
        return None
    return number


def show_book(book):
    """The text of the book."""
    paces, sorts, tables = book
    rows = [" ".join(["paces"] + [str(pace) for pace in paces]), f"sorts {sorts}"]
    for (u, v), table in zip(two_kinds(len(paces)), tables):
        pairs = " , ".join([f"{c} {d}" for c, d in table])
        rows.append(f"{u} {v} : {pairs}")
    return "\n".join(rows)


def read_book(text):
    """The book of the text; NoText of the first row that can't stand there, or lacks."""
    rows = text.split("\n")
    paces = paces_in(rows[0])
    if paces is None:
        raise NoText(0)
    sorts = sorts_in(row_at(rows, 1))
    if sorts is None:
        raise NoText(1)
    tables = []
    for u, v in two_kinds(len(paces)):
        at = 2 + len(tables)
        table = table_in(row_at(rows, at), u, v, sorts)
        if table is None:
            raise NoText(at)
        tables.append(table)
    due = 2 + len(tables)
    if len(rows) > due:
        raise NoText(due)
    return (paces, sorts, tuple(tables))


def row_at(rows, at):
    """The row of this number; where it lacks the one without signs, which is wrong in any book."""
    return rows[at] if at < len(rows) else ""


def paces_in(row):
    """The paces that the row writes, or None."""
    name, *words = row.split(" ")
    if name != "paces":
        return None
    paces = tuple([number_in(word, -MOST_PACE, MOST_PACE) for word in words])
    try:
        look_paces(paces)
    except NoBook:
        return None
    return paces


def sorts_in(row):
    """How many sorts the row writes, or None."""
    name, *words = row.split(" ")
    if name != "sorts" or len(words) != 1:
        return None
    return number_in(words[0], 1, MOST_SORTS)


def table_in(row, u, v, sorts):
    """The table of the kinds u and v that the row writes, or None."""
    head = f"{u} {v} : "
    if not row.startswith(head):
        return None
    table = tuple([pair_in(words, sorts) for words in row.removeprefix(head).split(" , ")])
    if len(table) != sorts * sorts or not all([is_pair(pair, sorts) for pair in table]):
        return None
    return table


def pair_in(words, sorts):
    """What the words write where they write a pair of sorts, something else where they don't."""
    return tuple([number_in(word, 0, sorts - 1) for word in words.split(" ")])


def show_setting(row, spots):
    """The text of the row at its spots."""
    return "\n".join([f"{kind} {burden} at {spot}" for (kind, burden), spot in zip(row, spots)])


def read_setting(book, text):
    """(row, spots) of the text; NoText of the first row that can't stand there."""
    row = []
    spots = []
    # Split, the text without signs would be one row, but it has none.
    lines = text.split("\n") if text else []
    for at, line in enumerate(lines):
        least = spots[-1] + 1 if spots else -MOST_SPOT
        read = walker_in(book, line, least)
        if read is None or at >= MOST_WALKERS:
            raise NoText(at)
        kind, burden, spot = read
        row.append((kind, burden))
        spots.append(spot)
    return (tuple(row), tuple(spots))


def walker_in(book, line, least):
    """(kind, burden, spot) that the line writes, the spot from the least on, or None."""
    words = line.split(" ")
    if len(words) != 4 or words[2] != "at":
        return None
    kind = number_in(words[0], 0, len(book[0]) - 1)
    burden = number_in(words[1], 0, book[1] - 1)
    spot = number_in(words[3], least, MOST_SPOT)
    if kind is None or burden is None or spot is None:
        return None
    return (kind, burden, spot)
