"""The interface's errors: how each is made, its field, and the class straight above it."""

import unittest

from shoalmates import errors
from shoalmates.errors import Apart, BadRow, BadText, Full, MayNot, NoDeed, NoShip

WITH_FIELD = (
    (MayNot, "ship", ValueError),
    (BadText, "text", ValueError),
    (BadRow, "row", ValueError),
    (NoShip, "ship", LookupError),
    (NoDeed, "many", LookupError),
    (Full, "many", OverflowError),
)
ABOVE = WITH_FIELD + ((Apart, None, ValueError),)
NUMBERS = (0, 1, 24, -3, 10 ** 12, 10 ** 20)
TEXTS = ("", "-", " 0 1 ", "two  blanks", "a\nb", "{0}", "x" * 12000)


def values_for(field):
    return TEXTS if field == "text" else NUMBERS


class ErrorTests(unittest.TestCase):
    def test_made_by_place(self):
        for made, field, above in WITH_FIELD:
            for value in values_for(field):
                error = made(value)
                self.assertEqual(getattr(error, field), value)
                self.assertIs(type(getattr(error, field)), type(value))

    def test_made_by_name(self):
        for made, field, above in WITH_FIELD:
            for value in values_for(field):
                self.assertEqual(getattr(made(**{field: value}), field), value)

    def test_apart_is_made_with_nothing(self):
        self.assertIsInstance(Apart(), Apart)

    def test_each_object_has_its_own_field(self):
        for made, field, above in WITH_FIELD:
            one, other = values_for(field)[:2]
            first, second = made(one), made(other)
            self.assertEqual((getattr(first, field), getattr(second, field)), (one, other))

    def test_straight_under_pythons_own(self):
        for made, field, above in ABOVE:
            self.assertEqual(made.__bases__, (above,), made)

    def test_none_is_under_another_one(self):
        for made, field, above in ABOVE:
            for other, field_too, above_too in ABOVE:
                self.assertEqual(issubclass(made, other), made is other)

    def test_raised_and_caught_with_the_field(self):
        for made, field, above in WITH_FIELD:
            value = values_for(field)[1]
            with self.assertRaises(above) as caught:
                raise made(value)
            self.assertIs(type(caught.exception), made)
            self.assertEqual(getattr(caught.exception, field), value)
        with self.assertRaises(ValueError) as caught:
            raise Apart()
        self.assertIs(type(caught.exception), Apart)

    def test_one_is_not_caught_as_another(self):
        for made, field, above in WITH_FIELD:
            for other, field_too, above_too in ABOVE:
                if other is not made:
                    self.assertNotIsInstance(made(values_for(field)[0]), other)

    def test_they_can_be_shown(self):
        for made, field, above in WITH_FIELD:
            for value in values_for(field):
                self.assertIs(type(str(made(value))), str)
        self.assertIs(type(str(Apart())), str)

    def test_no_others_stand_there(self):
        found = [thing for thing in vars(errors).values() if isinstance(thing, type)]
        self.assertCountEqual(found, [made for made, field, above in ABOVE])


if __name__ == "__main__":
    unittest.main()
