"""A road by hand: walkers go on, are shifted, laden, join and leave, and deeds are taken back."""

from wherefrom.books import is_whole, put_in
from wherefrom.doing import led_by
from wherefrom.errors import Full, NoSpot, NoWalker
from wherefrom.roads import look_spots, spots_by, word_by
from wherefrom.words import MOST_WALKERS, kinds_of, look_row, order_behind


class Road:
    """A book, and walkers at their spots, at a beat."""

    def __init__(self, book, row=(), spots=()):
        look_row(book, row)
        look_spots(kinds_of(row), spots)
        self.book = book
        # How the road stands is never changed, only put in the place of how it
        # stood: so a back has but to bring that again, and copies may share it.
        self.now = {
            "beat": 0,
            "row": row,
            "spots": spots,
            "numbers": tuple(range(len(row))),
            "next number": len(row),
            "begun": row,
            "letters": (),
        }
        self.past = []
        self.deeds = []

    def do(self, deed, changes):
        """Let the road stand with these changes from now on, by the deed."""
        self.past.append(self.now)
        self.now = {**self.now, **changes}
        self.deeds.append(deed)

    def begin_anew(self, deed, row, changes):
        """Do a deed that makes another row, with which a new stretch begins."""
        self.do(deed, {**changes, "row": row, "begun": row, "letters": ()})

    def look_place(self, place):
        """Refuse a place at which no walker is."""
        if not is_whole(place, 0, len(self.now["row"]) - 1):
            raise NoWalker(place)

    def walk(self, beats=1):
        """All go on for so many beats."""
        row, spots, numbers = self.now["row"], self.now["spots"], self.now["numbers"]
        kinds = kinds_of(row)
        word = word_by(self.book, kinds, spots, beat=beats)
        changes = {
            "beat": self.now["beat"] + beats,
            "row": led_by(self.book, row, word),
            "spots": spots_by(self.book, kinds, spots, beat=beats),
            "numbers": tuple([numbers[i] for i in order_behind(kinds, word)]),
            "letters": self.now["letters"] + word,
        }
        self.do(("walk", beats), changes)

    def shift(self, place, spot):
        """The walker at the place stands at the spot, between its neighbours, from now on."""
        self.look_place(place)
        spots = self.now["spots"]
        if place > 0 and spot <= spots[place - 1]:
            raise NoSpot(spot)
        if place + 1 < len(spots) and spot >= spots[place + 1]:
            raise NoSpot(spot)
        self.do(("shift", place, spot), {"spots": put_in(spots, place, spot)})

    def lay(self, place, burden):
        """The burden is borne at the place from now on; told is the one that was."""
        self.look_place(place)
        row = self.now["row"]
        kind, was = row[place]
        self.begin_anew(("lay", place, burden), put_in(row, place, (kind, burden)), {})
        return was

    def join(self, kind, burden, spot):
        """A new walker stands at the spot; told is its number."""
        row, spots, numbers = self.now["row"], self.now["spots"], self.now["numbers"]
        if spot in spots:
            raise NoSpot(spot)
        if len(row) >= MOST_WALKERS:
            raise Full(MOST_WALKERS)
        number = self.now["next number"]
        place = len([other for other in spots if other < spot])
        changes = {
            "spots": spots[:place] + (spot,) + spots[place:],
            "numbers": numbers[:place] + (number,) + numbers[place:],
            "next number": number + 1,
        }
        self.begin_anew(("join", kind, burden, spot), row[:place] + ((kind, burden),) + row[place:], changes)
        return number

    def leave(self, place):
        """The walker at the place is gone; told are its kind and burden."""
        self.look_place(place)
        row, spots, numbers = self.now["row"], self.now["spots"], self.now["numbers"]
        changes = {
            "spots": spots[:place] + spots[place + 1:],
            "numbers": numbers[:place] + numbers[place + 1:],
        }
        self.begin_anew(("leave", place), row[:place] + row[place + 1:], changes)
        return row[place]

    def back(self):
        """Take the last deed that stands back; told is whether there was one."""
        if not self.past:
            return False
        self.now = self.past.pop()
        self.deeds.append(("back",))
        return True

    def copied(self):
        """A Road that stands alike and goes on by itself."""
        other = Road(self.book)
        other.now = self.now
        other.past = list(self.past)
        other.deeds = list(self.deeds)
        return other

    def beat(self):
        """The beat, 0 at first."""
        return self.now["beat"]

    def row(self):
        """The row."""
        return self.now["row"]

    def spots(self):
        """The spots, by places."""
        return self.now["spots"]

    def numbers(self):
        """The walkers' numbers, by places."""
        return self.now["numbers"]

    def begun(self):
        """The row with which the stretch began: at the beginning, or behind the last lay, join or leave."""
        return self.now["begun"]

    def letters(self):
        """The word of all passings since the stretch began."""
        return self.now["letters"]

    def log(self):
        """All deeds done, and those taken back, in a list of the asker's own."""
        return list(self.deeds)

    def stand(self):
        """What two Roads of one book have alike where they are equal."""
        return (self.now["beat"], self.now["row"], self.now["spots"])

    def __len__(self):
        return len(self.now["row"])

    def __eq__(self, other):
        return isinstance(other, Road) and self.book == other.book and self.stand() == other.stand()

    def __repr__(self):
        return f"Road({len(self)}, {self.beat()})"
