import unittest

from sharewheel import errors

PLAIN = (
    "NoRatio", "NoLine", "NoName", "Taken", "NoClass", "NoPlace", "NoShare", "NoCurb",
    "NoLength", "TooEarly", "NoneReady", "NoText",
)
WITH_FIELDS = {
    "BadRow": ("place",),
    "Short": ("missing",),
    "TooMuch": ("asked", "given"),
    "Curbed": ("name",),
}
ALL = PLAIN + tuple(WITH_FIELDS)


class Classes(unittest.TestCase):
    def test_there_are_sixteen(self):
        self.assertEqual(len(set(ALL)), 16)
        found = [
            name for name, thing in vars(errors).items()
            if isinstance(thing, type) and issubclass(thing, errors.WheelError)
        ]
        self.assertEqual(sorted(found), sorted(ALL + ("WheelError",)))

    def test_wheel_error_stands_under_value_error(self):
        self.assertEqual(errors.WheelError.__bases__, (ValueError,))

    def test_each_stands_straight_under_wheel_error(self):
        for name in ALL:
            with self.subTest(name):
                self.assertEqual(getattr(errors, name).__bases__, (errors.WheelError,))
                self.assertTrue(issubclass(getattr(errors, name), ValueError))

    def test_none_stands_under_another(self):
        for name in ALL:
            for other in ALL:
                if name != other:
                    with self.subTest(name=name, other=other):
                        self.assertFalse(issubclass(getattr(errors, name), getattr(errors, other)))

    def test_the_plain_ones_are_raised_and_taken_by_name(self):
        for name in PLAIN:
            with self.subTest(name):
                kind = getattr(errors, name)
                with self.assertRaises(kind):
                    raise kind()
                with self.assertRaises(errors.WheelError):
                    raise kind("words")


class Fields(unittest.TestCase):
    def test_fields_are_made_in_their_order(self):
        for name, fields in WITH_FIELDS.items():
            with self.subTest(name):
                kind = getattr(errors, name)
                values = [f"value of {field}" for field in fields]
                made = kind(*values)
                self.assertEqual([getattr(made, field) for field in fields], values)

    def test_fields_are_there_when_it_is_taken(self):
        with self.assertRaises(ValueError) as taken:
            raise errors.BadRow(7)
        self.assertEqual(taken.exception.place, 7)
        with self.assertRaises(ValueError) as taken:
            raise errors.Short((3, 2))
        self.assertEqual(taken.exception.missing, (3, 2))
        with self.assertRaises(ValueError) as taken:
            raise errors.TooMuch((5, 4), (1, 1))
        self.assertEqual((taken.exception.asked, taken.exception.given), ((5, 4), (1, 1)))
        with self.assertRaises(ValueError) as taken:
            raise errors.Curbed("inner")
        self.assertEqual(taken.exception.name, "inner")

    def test_two_objects_keep_their_own_fields(self):
        one = errors.BadRow(1)
        other = errors.BadRow(2)
        self.assertEqual((one.place, other.place), (1, 2))


if __name__ == "__main__":
    unittest.main()
