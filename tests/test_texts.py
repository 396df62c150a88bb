"""Texts of books and of settings out: shown, read, refused."""

import random
import unittest

from wherefrom.errors import NoText
from wherefrom.makers import keeping, sorting
from wherefrom.texts import read_book, read_setting, show_book, show_setting
from followed import good_books, other_books, some_row
from samples import PACES, all_mixed, mixed_book, two_kinds

FAR = 4 * 10 ** 18
BOOK = sorting((-2, 0, 7), sorts=2)
TEXT = (
    "paces -2 0 7\n"
    "sorts 2\n"
    "1 0 : 0 0 , 0 1 , 0 1 , 1 1\n"
    "2 0 : 0 0 , 0 1 , 0 1 , 1 1\n"
    "2 1 : 0 0 , 0 1 , 0 1 , 1 1"
)
MANY = "1" + "0" * 5000


def shown(book):
    """The text of a book, by the words of point 43."""
    paces, sorts, tables = book
    rows = [["paces", *paces], ["sorts", sorts]]
    for (u, v), table in zip(two_kinds(len(paces)), tables):
        words = []
        for c, d in table:
            words += [c, d, ","]
        rows.append([u, v, ":", *words[:-1]])
    return "\n".join(" ".join(str(word) for word in row) for row in rows)


class Refusals(unittest.TestCase):
    def refused(self, at, teller, *things):
        with self.assertRaises(NoText) as caught:
            teller(*things)
        self.assertEqual(caught.exception.at, at)
        self.assertIs(type(caught.exception.at), int)


class Books(Refusals):
    def row_otherwise(self, at, row, text=TEXT):
        """The text with another row of this number is refused for it."""
        rows = text.split("\n")
        rows[at] = row
        self.refused(at, read_book, "\n".join(rows))

    def test_there_and_back(self):
        for book in good_books() + other_books() + all_mixed():
            text = show_book(book)
            self.assertEqual(text, shown(book))
            self.assertLessEqual(len(text), 6000)
            self.assertRegex(text, r"\A[ -~\n]*\Z")
            self.assertEqual(read_book(text), book)

    def test_written_out(self):
        self.assertEqual(show_book(BOOK), TEXT)
        self.assertEqual(read_book(TEXT), BOOK)
        self.assertEqual(show_book(book=keeping((-1000,), sorts=6)), "paces -1000\nsorts 6")
        self.assertEqual(read_book(text="paces 1000\nsorts 1"), keeping((1000,), sorts=1))
        self.assertEqual(show_book(keeping((0, 1), sorts=1)), "paces 0 1\nsorts 1\n1 0 : 0 0")

    def test_kinds_of_what_is_told(self):
        paces, sorts, tables = read_book(TEXT)
        self.assertEqual([type(thing) for thing in (paces, sorts, tables, tables[0], tables[0][0])],
                         [tuple, int, tuple, tuple, tuple])
        self.assertIs(type(show_book(BOOK)), str)

    def test_without_signs(self):
        self.refused(0, read_book, "")
        self.refused(0, read_book, "\n")
        self.refused(0, read_book, " ")

    def test_blanks_more(self):
        for at, row in enumerate(TEXT.split("\n")):
            self.row_otherwise(at, " " + row)
            self.row_otherwise(at, row + " ")
            for place, sign in enumerate(row):
                if sign == " ":
                    self.row_otherwise(at, row[:place] + " " + row[place:])

    def test_any_sign_more_fewer_or_otherwise(self):
        # Each book has one text: what is another text is another book, or none.
        book = mixed_book((-10, 3, 12), 3, 1)
        text = show_book(book)
        read = 0
        for place in range(len(text) + 1):
            for sign in " -+0129,:a\n":
                for other in (text[:place] + sign + text[place:], text[:place] + sign + text[place + 1:]):
                    read += self.told_or_refused(text, other)
            read += self.told_or_refused(text, text[:place] + text[place + 1:])
        self.assertGreater(read, 50)

    def told_or_refused(self, text, other):
        """Whether another text is read: then it is that of the book told; else the first wrong row is told."""
        try:
            book = read_book(other)
        except NoText as refusal:
            rows, others = text.split("\n"), other.split("\n")
            alike = next((at for at, (one, two) in enumerate(zip(rows, others)) if one != two), None)
            self.assertGreaterEqual(refusal.at, min(len(rows), len(others)) if alike is None else alike)
            self.assertLessEqual(refusal.at, len(others))
            return 0
        self.assertEqual(show_book(book), other)
        return 1

    def test_paces(self):
        for row in (
            "paces", "paces ", "pace -2 0 7", "Paces -2 0 7", "paces -2 0 0", "paces 0 -2 7", "paces -02 0 7",
            "paces -2 00 7", "paces -2 -0 7", "paces -2 0 +7", "paces -2 0 7.0", "paces -2 0 x", "paces -2 0 1001",
            "paces -1001 0 7", "paces 1 2 3 4 5 6", "paces -2, 0, 7", "paces:-2 0 7", "-2 0 7", "paces - 0 7",
            "paces --2 0 7", "paces 2- 3 7", "paces -2 0 " + MANY, f"paces -{MANY} 0 7",
            "paces -2 0 " + "0" * 5000 + "7", "paces -2 0 7_0", "paces 1 True 7", "paces -2 0 0x7", "",
        ):
            self.row_otherwise(0, row)

    def test_other_paces_that_are_right(self):
        for paces in PACES:
            if len(paces) == 3:
                text = TEXT.replace("-2 0 7", " ".join(map(str, paces)))
                self.assertEqual(read_book(text), (paces,) + BOOK[1:])

    def test_sorts(self):
        for row in (
            "sorts", "sorts ", "sorts 0", "sorts 7", "sorts -2", "sorts 02", "sorts +2", "sorts 2 2", "sort 2", "2",
            "sorts two", "sorts " + MANY, "sorts -0", "", "Sorts 2", "sorts:2", "sorts 2.0",
        ):
            self.row_otherwise(1, row)

    def test_tables(self):
        for row in (
            "1 0 : 0 0 , 0 1 , 0 1", "1 0 : 0 0 , 0 1 , 0 1 , 1 1 , 1 1", "1 0 : 0 0 , 0 1 , 0 1 , 1 1 ,",
            "1 0 : , 0 0 , 0 1 , 0 1 , 1 1", "1 0 : 0 0 , 0 1 , , 0 1 , 1 1", "1 0 : 0 0 0 1 0 1 1 1",
            "1 0 : 0 0, 0 1, 0 1, 1 1", "1 0: 0 0 , 0 1 , 0 1 , 1 1", "1 0 0 0 , 0 1 , 0 1 , 1 1",
            "0 1 : 0 0 , 0 1 , 0 1 , 1 1", "2 0 : 0 0 , 0 1 , 0 1 , 1 1", "1 0 : 0 2 , 0 1 , 0 1 , 1 1",
            "1 0 : 0 0 , 0 1 , 0 1 , 1 -1", "1 0 : 0 0 , 0 1 , 0 1 , 1 -0", "1 0 : 0 0 , 0 1 , 0 1 , 1 01",
            "1 0 : 0 0 , 0 1 , 0 1 , 1 +1", "1 0 : 0 0 , 0 1 , 0 1 , 1", "1 0 : 0 0 , 0 1 , 0 1 , 1 1 1",
            "1 0 : 0 0 , 0 1 , 0 1 , 1 " + MANY, "1 0 : 0 0 , 0 1 , 0 1 , 1 x", "1 00 : 0 0 , 0 1 , 0 1 , 1 1",
            "01 0 : 0 0 , 0 1 , 0 1 , 1 1", "+1 0 : 0 0 , 0 1 , 0 1 , 1 1", "1 0 :", "1 0", "1 0 : ", "1", "", ":",
            "0 0 , 0 1 , 0 1 , 1 1", ": 0 0 , 0 1 , 0 1 , 1 1", "1 0 : 0 0 ; 0 1 ; 0 1 ; 1 1",
            "1 0 : 0 0 : 0 1 , 0 1 , 1 1", MANY + " 0 : 0 0 , 0 1 , 0 1 , 1 1",
        ):
            self.row_otherwise(2, row)
            for at in (3, 4):
                head = {3: "2 0", 4: "2 1"}[at]
                if row.startswith("1 0 :"):
                    self.row_otherwise(at, head + row[3:])

    def test_the_order_of_the_tables(self):
        rows = TEXT.split("\n")
        self.refused(2, read_book, "\n".join(rows[:2] + [rows[3], rows[2], rows[4]]))
        self.refused(3, read_book, "\n".join(rows[:3] + [rows[4], rows[3]]))
        self.refused(3, read_book, "\n".join(rows[:3] + rows[2:]))

    def test_rows_that_lack(self):
        for book in (BOOK, mixed_book((0, 1, 2, 3, 4), 6), keeping((5,), sorts=2)):
            rows = show_book(book).split("\n")
            for many in range(1, len(rows)):
                self.refused(many, read_book, "\n".join(rows[:many]))
                self.refused(many, read_book, "\n".join(rows[:many]) + "\n")

    def test_rows_more(self):
        for book in (BOOK, mixed_book((0, 1, 2, 3, 4), 6), keeping((5,), sorts=2)):
            text = show_book(book)
            due = len(text.split("\n"))
            for more in ("\n", "\n ", "\n\n", "\nmore", "\n" + text, "\n" + text.split("\n")[-1]):
                self.refused(due, read_book, text + more)
            self.refused(0, read_book, "\n" + text)
            self.refused(due - 1, read_book, text + text)

    def test_the_first_wrong_row(self):
        rows = TEXT.split("\n")
        for first in range(len(rows)):
            for second in range(first + 1, len(rows)):
                wrong = list(rows)
                wrong[first] += " "
                wrong[second] += " "
                self.refused(first, read_book, "\n".join(wrong))
            self.refused(first, read_book, "\n".join(rows[:first] + ["x"]))
            self.refused(first, read_book, "\n".join(rows[:first] + ["x"] * 20))


class Settings(Refusals):
    def test_there_and_back(self):
        for book in good_books(5, 3) + other_books() + all_mixed():
            for many in range(11):
                row = some_row(book, many, many)
                for spots in (
                    tuple(range(-5, many - 5)), tuple(k * k for k in range(many)),
                    tuple(k - FAR for k in range(many)), tuple(FAR - k for k in reversed(range(many))),
                ):
                    text = show_setting(row, spots)
                    due = [f"{kind} {burden} at {spot}" for (kind, burden), spot in zip(row, spots)]
                    self.assertEqual(text, "\n".join(due))
                    self.assertEqual(read_setting(book, text), (row, spots))

    def test_written_out(self):
        self.assertEqual(show_setting(((2, 1), (0, 0)), (-3, FAR)), "2 1 at -3\n0 0 at 4000000000000000000")
        self.assertEqual(show_setting(spots=(), row=()), "")
        self.assertEqual(read_setting(BOOK, ""), ((), ()))
        told = read_setting(text="2 1 at -3\n0 0 at 0", book=BOOK)
        self.assertEqual(told, (((2, 1), (0, 0)), (-3, 0)))
        self.assertEqual([type(thing) for thing in (told, told[0], told[0][0], told[1])], [tuple] * 4)

    def test_rows_that_cannot_stand_there(self):
        right = ["2 1 at 0", "1 0 at 5", "0 1 at 9"]
        for wrong in (
            "", " ", "1 0 at", "1 0 5", "1 0 at 5 ", " 1 0 at 5", "1  0 at 5", "1 0  at 5", "1 0 at  5", "1 0 At 5",
            "1 0 at 5 5", "3 0 at 5", "-1 0 at 5", "1 2 at 5", "1 -1 at 5", "01 0 at 5", "1 00 at 5", "1 0 at 05",
            "1 0 at +5", "+1 0 at 5", "1 +0 at 5", "1 0 at -0", "-0 0 at 5", "1 -0 at 5", "1 0 at x", "x 0 at 5",
            "1 0 at 5.0", "1 0 at 5_0", "1 0 at --5", "1 0 at -", f"1 0 at {MANY}", f"1 0 at -{MANY}", f"{MANY} 0 at 5",
            f"1 {MANY} at 5", "1 0 at " + "0" * 5000 + "5", f"1 0 at {FAR + 1}", f"1 0 at -{FAR + 1}", "1,0 at 5",
            "1 0 at 10 ** 3", "at 1 0 5", f"1 0 at 1{FAR}",
        ):
            self.refused(0, read_setting, BOOK, wrong or "\n")
            for at in range(3):
                rows = list(right)
                rows[at] = wrong
                self.refused(at, read_setting, BOOK, "\n".join(rows))

    def test_spots_not_rising(self):
        for spots, at in (
            ((5, 5), 1), ((5, 4), 1), ((-5, -6, 0), 1), ((0, 1, 1), 2), ((0, 1, -FAR), 2), ((FAR, FAR), 1),
            ((-FAR, -FAR), 1), ((FAR, -FAR), 1),
        ):
            text = "\n".join(f"0 0 at {spot}" for spot in spots)
            self.refused(at, read_setting, BOOK, text)

    def test_spots_at_and_beyond_the_bounds(self):
        self.assertEqual(read_setting(BOOK, f"0 0 at -{FAR}\n0 0 at {FAR}"), (((0, 0), (0, 0)), (-FAR, FAR)))
        self.refused(0, read_setting, BOOK, f"0 0 at -{FAR + 1}\n0 0 at {FAR}")
        self.refused(1, read_setting, BOOK, f"0 0 at -{FAR}\n0 0 at {FAR + 1}")
        self.refused(0, read_setting, BOOK, f"0 0 at {10 ** 19}")
        self.refused(0, read_setting, BOOK, f"0 0 at {10 ** 18 * 9}")

    def test_kinds_and_sorts_of_the_book(self):
        for book in all_mixed():
            kinds, sorts = len(book[0]), book[1]
            self.assertEqual(read_setting(book, f"{kinds - 1} {sorts - 1} at 0"), (((kinds - 1, sorts - 1),), (0,)))
            self.refused(0, read_setting, book, f"{kinds} {sorts - 1} at 0")
            self.refused(0, read_setting, book, f"{kinds - 1} {sorts} at 0")

    def test_the_eleventh_walker(self):
        rows = [f"0 0 at {spot}" for spot in range(14)]
        self.assertEqual(len(read_setting(BOOK, "\n".join(rows[:10]))[0]), 10)
        for many in (11, 12, 14):
            self.refused(10, read_setting, BOOK, "\n".join(rows[:many]))
        self.refused(10, read_setting, BOOK, "\n".join(rows[:10]) + "\n")
        self.refused(10, read_setting, BOOK, "\n".join(rows[:10]) + "\nx")
        self.refused(3, read_setting, BOOK, "\n".join(rows[:3] + ["x"] + rows[4:]))

    def test_line_feeds_more(self):
        for many in range(11):
            text = "\n".join(f"0 0 at {spot}" for spot in range(many))
            if many:
                self.refused(many, read_setting, BOOK, text + "\n")
                self.refused(0, read_setting, BOOK, "\n" + text)
            self.refused(many, read_setting, BOOK, text + "\n\n")
        self.refused(0, read_setting, BOOK, "\n")

    def test_any_sign_otherwise(self):
        dice = random.Random(44)
        text = "2 1 at -31\n1 0 at 5\n0 1 at 912"
        for _ in range(4000):
            place = dice.randrange(len(text))
            other = text[:place] + dice.choice(("", " ", "\n", *"-+0123459at")) + text[place + dice.randrange(2):]
            try:
                told = read_setting(BOOK, other)
            except NoText as refusal:
                self.assertLessEqual(refusal.at, len(other.split("\n")) - 1)
                continue
            self.assertEqual(show_setting(*told), other)


if __name__ == "__main__":
    unittest.main()
