"""Books mended by the fewest pairs, and papers that fewer don't do."""

from wherefrom.books import is_number, is_tuple_of, is_whole, pair_at, with_pair
from wherefrom.doing import pass_one
from wherefrom.judging import both_ways, judge_book

MOST = 1


def pairs_asked(book, kinds, burdens):
    """The pairs (u, v, a, b) that the words (0, 1, 0), then (1, 0, 1), ask for, each once."""
    asked = {}
    for word in ((0, 1, 0), (1, 0, 1)):
        row = tuple(zip(kinds, burdens))
        for k in word:
            (u, a), (v, b) = row[k], row[k + 1]
            asked[(u, v, a, b)] = True
            row = pass_one(book, row, k)
    return tuple(asked)


def changes_due(book, kinds, burdens, most):
    """All (asked, pair) of which one must be done, so that both words bring alike there; none of at most 0."""
    if most == 0:
        return []
    sorts = book[1]
    pairs = [(c, d) for c in range(sorts) for d in range(sorts)]
    return [
        (asked, pair)
        for asked in pairs_asked(book, kinds, burdens) for pair in pairs if pair != pair_asked(book, asked)
    ]


def pair_asked(book, asked):
    """The book's pair of what was asked."""
    u, v, a, b = asked
    return pair_at(book, u, v, a, b)


def with_change(book, asked, pair):
    """The book with another pair of what was asked."""
    u, v, a, b = asked
    return with_pair(book, u, v, a, b, pair)


def unmended_holds(book, paper, *, most=MOST):
    """Whether the thing is a paper that with at most so many pairs otherwise the book isn't good."""
    if not is_tuple_of(paper, 3):
        return False
    kinds, burdens, cases = paper
    if not are_falling_kinds(kinds, len(book[0])) or not are_three(burdens, book[1]):
        return False
    rear_first, fore_first = both_ways(book, kinds, burdens)
    if rear_first == fore_first:
        return False
    due = changes_due(book, kinds, burdens, most)
    if not is_tuple_of(cases, len(due)):
        return False
    return all([case_holds(book, case, asked, pair, most) for case, (asked, pair) in zip(cases, due)])


def are_three(thing, many):
    """Whether the thing is a tuple of three whole numbers from 0 on below many."""
    return is_tuple_of(thing, 3) and all([is_whole(part, 0, many - 1) for part in thing])


def are_falling_kinds(thing, many):
    """Whether the thing is a tuple (u, v, w) of so many kinds, u above v above w."""
    return are_three(thing, many) and thing[0] > thing[1] > thing[2]


def case_holds(book, case, asked, pair, most):
    """Whether the thing is the case of this change in a paper of so many pairs."""
    if not is_tuple_of(case, 3) or not are_numbers(case[0], asked) or not are_numbers(case[1], pair):
        return False
    return unmended_holds(with_change(book, asked, pair), case[2], most=most - 1)


def are_numbers(thing, numbers):
    """Whether the thing is the tuple of these numbers, none of them a truth."""
    # A truth equals 0 or 1, so that the tuples being equal isn't enough.
    return thing == numbers and all([is_number(part) for part in thing])


def mend_book(book, *, most=MOST):
    """("mended", changes, paper), or ("none", paper) where so many pairs don't do."""
    paper = None
    for pairs in range(most + 1):
        changes, further = mended_or_paper(book, pairs)
        if further is None:
            return ("mended", tuple(sorted(changes)), paper)
        paper = further
    return ("none", paper)


def mended_or_paper(book, most):
    """(changes, None), at most so many by which the book is good; where there are none, (None, paper)."""
    judged = judge_book(book)
    if judged[0] == "good":
        return ([], None)
    kinds, burdens = judged[1], judged[2]
    cases = []
    for asked, pair in changes_due(book, kinds, burdens, most):
        changes, paper = mended_or_paper(with_change(book, asked, pair), most - 1)
        if paper is None:
            return ([(asked, pair)] + changes, None)
        cases.append((asked, pair, paper))
    return (None, (kinds, burdens, tuple(cases)))
