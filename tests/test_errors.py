"""The refusals: their fields, and what each stands right under."""

import unittest

from wherefrom import errors
from samples import GREAT

FIELDS = {
    "NoBook": ("word", "at"),
    "NoRow": ("word", "at"),
    "NoPassing": ("at",),
    "NoOrder": ("at",),
    "NoMove": ("at",),
    "NoSpots": ("at",),
    "NoSpot": ("spot",),
    "NoWay": ("u", "v"),
    "NoText": ("at",),
    "Full": ("most",),
    "NoWalker": ("place",),
}

THINGS = (0, 7, -1, GREAT, -GREAT, "", "form", "a b\n", True, False, None, (), (1, ("x", None, (True,))))


def field_rows(names):
    """For these fields, rows of things in which each thing stands at each place."""
    rows = []
    for k in range(len(THINGS)):
        rows.append(tuple(THINGS[(k + 5 * n) % len(THINGS)] for n in range(len(names))))
    return rows


class Fields(unittest.TestCase):
    def keeps(self, error, names, things):
        for name, thing in zip(names, things):
            self.assertIs(getattr(error, name), thing)

    def test_by_place(self):
        for title, names in FIELDS.items():
            for things in field_rows(names):
                with self.subTest(title=title):
                    self.keeps(getattr(errors, title)(*things), names, things)

    def test_by_name(self):
        for title, names in FIELDS.items():
            for things in field_rows(names):
                with self.subTest(title=title):
                    self.keeps(getattr(errors, title)(**dict(zip(names, things))), names, things)

    def test_fields_are_told_apart(self):
        for title, names in FIELDS.items():
            if len(names) == 2:
                error = getattr(errors, title)(**{names[1]: "second", names[0]: "first"})
                self.keeps(error, names, ("first", "second"))

    def test_too_few_and_too_many_are_not_taken(self):
        for title, names in FIELDS.items():
            for many in (len(names) - 1, len(names) + 1):
                with self.subTest(title=title, many=many), self.assertRaises(TypeError):
                    getattr(errors, title)(*[0] * many)

    def test_can_be_shown_with_numbers_of_any_size(self):
        for title, names in FIELDS.items():
            error = getattr(errors, title)(*[GREAT] * len(names))
            self.assertIsInstance(str(error), str)
            self.assertIsInstance(repr(error), str)


class Standing(unittest.TestCase):
    def test_right_under(self):
        for title in FIELDS:
            above = IndexError if title == "NoWalker" else errors.RoadError
            self.assertEqual(getattr(errors, title).__bases__, (above,), title)
        self.assertEqual(errors.RoadError.__bases__, (ValueError,))

    def test_none_under_another(self):
        for title in FIELDS:
            for other in FIELDS:
                if title != other:
                    self.assertFalse(issubclass(getattr(errors, title), getattr(errors, other)))
        self.assertFalse(issubclass(errors.NoWalker, ValueError))

    def test_caught_by_its_own_name(self):
        for title, names in FIELDS.items():
            kind = getattr(errors, title)
            things = tuple(range(3, 3 + len(names)))
            with self.subTest(title=title):
                with self.assertRaises(kind) as caught:
                    raise kind(*things)
                self.assertEqual(tuple(getattr(caught.exception, name) for name in names), things)

    def test_caught_by_none_of_the_others(self):
        for title, names in FIELDS.items():
            others = tuple(getattr(errors, other) for other in FIELDS if other != title)
            try:
                raise getattr(errors, title)(*names)
            except others:
                self.fail(title)
            except (errors.RoadError, IndexError) as error:
                self.assertEqual(isinstance(error, errors.RoadError), title != "NoWalker")

    def test_road_error_is_made_of_a_text(self):
        for text in ("", "no road here", "a\nb"):
            with self.assertRaises(errors.RoadError) as caught:
                raise errors.RoadError(text)
            self.assertEqual(str(caught.exception), text)
            self.assertIsInstance(caught.exception, ValueError)


if __name__ == "__main__":
    unittest.main()
