"""The error classes of the interface."""

import unittest

from ringclear import errors

BASES = {
    "BookError": ValueError,
    "NoBook": errors.BookError,
    "NoAmount": errors.BookError,
    "NoStep": errors.BookError,
    "NoText": errors.BookError,
    "NoVector": errors.BookError,
    "NoRow": errors.BookError,
    "NoBack": errors.BookError,
    "NoSuch": LookupError,
    "NoRing": LookupError,
    "Full": RuntimeError,
    "TooMuch": RuntimeError,
    "Short": ArithmeticError,
    "Behind": ArithmeticError,
}
FIELDS = {
    "NoBook": ("what", "who"),
    "NoText": ("row",),
    "NoSuch": ("who",),
    "NoRing": ("who",),
    "Full": ("many",),
    "TooMuch": ("who", "most"),
    "Short": ("who",),
    "Behind": ("who",),
}
WORTHS = [("ann", "bob"), ("", 0), (60, 10 ** 60), (None, ["ann"]), ({"ann": 1}, (1, 2))]


class Errors(unittest.TestCase):

    def test_each_stands_straight_under_its_base(self):
        for name, base in BASES.items():
            with self.subTest(name):
                self.assertEqual(getattr(errors, name).__bases__, (base,))

    def test_none_stands_under_another_one_but_so(self):
        for name in BASES:
            for other in BASES:
                under = name == other or (other == "BookError" and BASES[name] is errors.BookError)
                with self.subTest(name=name, other=other):
                    self.assertIs(issubclass(getattr(errors, name), getattr(errors, other)), under)

    def test_each_is_defined_in_its_file(self):
        for name in BASES:
            self.assertEqual(getattr(errors, name).__module__, "ringclear.errors")

    def test_fields_by_place(self):
        for name, fields in FIELDS.items():
            for worths in WORTHS:
                worths = worths[:len(fields)]
                with self.subTest(name=name, worths=worths):
                    error = getattr(errors, name)(*worths)
                    self.assertEqual(tuple(getattr(error, field) for field in fields), worths)

    def test_fields_by_name(self):
        for name, fields in FIELDS.items():
            for worths in WORTHS:
                worths = dict(zip(fields, worths))
                with self.subTest(name=name, worths=worths):
                    error = getattr(errors, name)(**worths)
                    self.assertEqual({field: getattr(error, field) for field in fields}, worths)

    def test_fields_must_all_be_there_and_no_more(self):
        for name, fields in FIELDS.items():
            with self.subTest(name):
                with self.assertRaises(TypeError):
                    getattr(errors, name)(*fields[1:])
                with self.assertRaises(TypeError):
                    getattr(errors, name)(*fields, "more")

    def test_those_without_fields_are_made_of_a_text(self):
        for name in BASES:
            if name not in FIELDS:
                with self.subTest(name):
                    self.assertEqual(str(getattr(errors, name)("a text")), "a text")

    def test_each_can_be_raised_and_caught(self):
        for name, base in BASES.items():
            worths = WORTHS[0][:len(FIELDS.get(name, ("text",)))]
            with self.subTest(name), self.assertRaises(base):
                raise getattr(errors, name)(*worths)


if __name__ == "__main__":
    unittest.main()
