"""Sights: what beginnings a row of sights lets be, or the fewest sights that clash."""

from wherefrom.books import is_whole
from wherefrom.doing import led_by
from wherefrom.roads import word_by
from wherefrom.words import burdens_of


def all_burdens(sorts, many):
    """All rows of burdens of so many walkers, rising."""
    found = [()]
    for k in range(many):
        found = [burdens + (burden,) for burdens in found for burden in range(sorts)]
    return found


def those_meeting(book, kinds, spots, sight, rows):
    """Those of the rows of burdens at the beginning that meet the sight."""
    beat, place, burden = sight
    word = word_by(book, kinds, spots, beat=beat)
    return [burdens for burdens in rows if is_borne(burdens_led(book, kinds, burdens, word), place, burden)]


def burdens_led(book, kinds, burdens, word):
    """The burdens, by places, behind the word."""
    return burdens_of(led_by(book, tuple(zip(kinds, burdens)), word))


def is_borne(burdens, place, burden):
    """Whether the burden is borne at the place; none is where there is no such place."""
    return is_whole(place, 0, len(burdens) - 1) and burdens[place] == burden


def beginnings(book, kinds, spots, sights):
    """All rows of burdens at the beginning that meet all sights, rising."""
    left = all_burdens(book[1], len(kinds))
    for sight in sights:
        left = those_meeting(book, kinds, spots, sight, left)
    return tuple(left)


def clash_of(book, kinds, spots, sights):
    """None where some beginning meets all sights; else the fewest, the first, that none meets together."""
    every = all_burdens(book[1], len(kinds))
    meeting = []
    for sight in sights:
        meeting.append({burdens: True for burdens in those_meeting(book, kinds, spots, sight, every)})
    if any([all([burdens in met for met in meeting]) for burdens in every]):
        return None
    return first_clash(meeting, every)


def first_clash(meeting, every):
    """The numbers of the fewest, the first, that none of all burdens is in together."""
    # One more is chosen at a time, behind those chosen before: so the choices
    # of as many are gone through number by number, and none has too many.
    choices = [((), every)]
    while choices:
        further = []
        for numbers, left in choices:
            for number in range(max(numbers, default=-1) + 1, len(meeting)):
                still = [burdens for burdens in left if burdens in meeting[number]]
                if not still:
                    return numbers + (number,)
                further.append((numbers + (number,), still))
        choices = further
    return None
