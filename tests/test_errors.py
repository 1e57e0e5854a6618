"""The classes of treetrain.errors, their families and their fields."""

import unittest

from treetrain import errors

FAMILIES = {
    "RailError": (ValueError, {
        "InvalidTracks": ("position",), "InvalidStation": ("value",), "InvalidLength": ("value",),
        "InvalidStanding": ("value",), "InvalidMove": ("position",), "InvalidPair": ("value",),
        "InvalidLine": ("value",), "InvalidAnswer": ("part",), "InvalidOrder": ("value",),
        "InvalidCount": ("value",), "InvalidText": ("row", "word"),
    }),
    "RunError": (RuntimeError, {
        "Blocked": ("position",), "NoWay": ("reason",), "OtherLength": ("spans",), "OutOfFuel": ("needed",),
        "TooShort": ("least",), "TooMany": ("limit",), "StillJoined": ("value",),
    }),
    "MissingError": (LookupError, {"NothingToUndo": ("count",)}),
}
ROWS = [(family, name, fields) for family, (_, members) in FAMILIES.items() for name, fields in members.items()]
VALUES = (None, True, 0, 7, "form", (1, 2), [3, [4]], ("clamp", 0, 1))


class Families(unittest.TestCase):
    def test_each_family_is_under_its_own_base_only(self):
        for name, (base, _) in FAMILIES.items():
            with self.subTest(name):
                self.assertEqual(getattr(errors, name).__bases__, (base,))

    def test_each_error_is_directly_under_its_family_only(self):
        for family, name, _ in ROWS:
            with self.subTest(name):
                self.assertEqual(getattr(errors, name).__bases__, (getattr(errors, family),))

    def test_all_classes_are_defined_in_the_file(self):
        for name in list(FAMILIES) + [name for _, name, _ in ROWS]:
            with self.subTest(name):
                self.assertEqual(getattr(errors, name).__module__, "treetrain.errors")
                self.assertEqual(getattr(errors, name).__name__, name)

    def test_there_are_no_other_errors(self):
        found = [name for name in vars(errors) if isinstance(getattr(errors, name), type)]
        self.assertEqual(sorted(found), sorted(list(FAMILIES) + [name for _, name, _ in ROWS]))

    def test_errors_are_caught_as_their_families(self):
        for family, name, fields in ROWS:
            with self.subTest(name):
                made = getattr(errors, name)(*fields)
                for other, (base, _) in FAMILIES.items():
                    self.assertEqual(isinstance(made, getattr(errors, other)), other == family)
                    self.assertEqual(isinstance(made, base), other == family)


class Fields(unittest.TestCase):
    def test_fields_by_position_and_by_name(self):
        for _, name, fields in ROWS:
            for value in VALUES:
                with self.subTest(name, value=value):
                    values = [value, "second"][:len(fields)]
                    wanted = dict(zip(fields, values))
                    self.assertEqual(vars(getattr(errors, name)(*values)), wanted)
                    self.assertEqual(vars(getattr(errors, name)(**wanted)), wanted)

    def test_the_value_itself_is_the_field(self):
        value = [1]
        self.assertIs(errors.InvalidStanding(value).value, value)

    def test_invalid_text_has_the_row_first(self):
        error = errors.InvalidText(3, 4)
        self.assertEqual((error.row, error.word), (3, 4))

    def test_none_where_no_argument_is_given(self):
        self.assertIsNone(errors.InvalidTracks().position)
        self.assertIsNone(errors.InvalidMove().position)

    def test_all_others_need_their_arguments(self):
        for _, name, _ in ROWS:
            if name not in ("InvalidTracks", "InvalidMove"):
                with self.subTest(name):
                    self.assertRaises(TypeError, getattr(errors, name))
        self.assertRaises(TypeError, errors.InvalidText, 1)

    def test_errors_can_be_raised_and_caught(self):
        for family, name, fields in ROWS:
            with self.subTest(name):
                with self.assertRaises(getattr(errors, family)) as caught:
                    raise getattr(errors, name)(*fields)
                self.assertIs(type(caught.exception), getattr(errors, name))


if __name__ == "__main__":
    unittest.main()
