"""Round roads: their passings, and what is borne at far beats and after many rounds."""

from wherefrom.books import pair_at
from wherefrom.roads import in_told_order, is_done_by
from wherefrom.words import burdens_of, kinds_of


def round_passings(book, kinds, spots, *, long):
    """The passings (moment, i, j) of the first round, in their order."""
    paces = book[0]
    meetings = []
    for i, u in enumerate(kinds):
        for j, v in enumerate(kinds):
            if u > v:
                gap = paces[u] - paces[v]
                way = (spots[j] - spots[i]) % long
                # No two set out from one spot, so the first way is short of the
                # whole road, and in a round i comes by j just as often as the gap.
                meetings += [(way + m * long, gap, i, j) for m in range(gap)]
    return in_told_order(kinds, meetings)


def borne_behind(book, kinds, met, burdens):
    """What each bears behind the passings, by the walkers' numbers."""
    borne = list(burdens)
    for moment, i, j in met:
        borne[j], borne[i] = pair_at(book, kinds[i], kinds[j], borne[i], borne[j])
    return tuple(borne)


def trail_of(book, kinds, met, burdens):
    """What is borne after 0, 1, 2 and so on rounds, till it was borne before, and the number that it then had."""
    numbers = {}
    while burdens not in numbers:
        numbers[burdens] = len(numbers)
        burdens = borne_behind(book, kinds, met, burdens)
    return (list(numbers), numbers[burdens])


def borne_after(book, kinds, met, burdens, rounds):
    """What each bears after so many rounds of these passings."""
    trail, first = trail_of(book, kinds, met, burdens)
    if rounds < first:
        return trail[rounds]
    return trail[first + (rounds - first) % (len(trail) - first)]


def round_burdens(book, row, spots, *, long, beat):
    """What each bears at the beat, by the walkers' numbers."""
    kinds = kinds_of(row)
    met = round_passings(book, kinds, spots, long=long)
    rounds, rest = divmod(beat, long)
    burdens = borne_after(book, kinds, met, burdens_of(row), rounds)
    done = [passing for passing in met if is_done_by(passing[0], rest)]
    return borne_behind(book, kinds, done, burdens)


def told_round(book, kinds):
    """The passings of a round from the spots 0, 1, 2 and so on, on a road as long as there are walkers."""
    many = len(kinds)
    return round_passings(book, kinds, tuple(range(many)), long=max(1, many))


def rounds_done(book, row, *, rounds=1):
    """What so many rounds make of the row's burdens."""
    kinds = kinds_of(row)
    return borne_after(book, kinds, told_round(book, kinds), burdens_of(row), rounds)


def comes_again(book, row):
    """(first, again): from first rounds on the same is borne again rounds later, each the least."""
    kinds = kinds_of(row)
    trail, first = trail_of(book, kinds, told_round(book, kinds), burdens_of(row))
    return (first, len(trail) - first)
