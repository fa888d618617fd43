"""The refusals: their classes and their fields."""

import unittest

from mixposts import errors

PLAIN = (
    "NoPrime", "NoBack", "NoName", "Taken", "OneHouse", "IntoHouse", "RingMade", "NoNumber", "TooMany", "Unplanned",
)
FIELDS = {
    "NoPost": ("name",),
    "NoSuch": ("number",),
    "NoLine": ("number",),
    "NoPlan": ("number",),
    "Cut": ("fallen", "name", "numbers"),
    "SmallPrime": ("needed",),
}
VALUES = {"name": "ada", "number": 7, "fallen": [1, 4], "numbers": [2, 3, 5], "needed": 12}


def made(name):
    values = [VALUES[field] for field in FIELDS.get(name, ())]
    return getattr(errors, name)(*values)


class Classes(unittest.TestCase):
    def test_post_error_is_a_value_error(self):
        self.assertEqual(errors.PostError.__bases__, (ValueError,))

    def test_there_are_sixteen(self):
        found = [
            name for name, value in vars(errors).items()
            if isinstance(value, type) and issubclass(value, errors.PostError) and name != "PostError"
        ]
        self.assertEqual(sorted(found), sorted(PLAIN + tuple(FIELDS)))
        self.assertEqual(len(found), 16)

    def test_each_stands_straight_under_post_error(self):
        for name in PLAIN + tuple(FIELDS):
            self.assertEqual(getattr(errors, name).__bases__, (errors.PostError,), name)

    def test_none_is_of_another_ones_class(self):
        names = PLAIN + tuple(FIELDS)
        for one in names:
            for other in names:
                self.assertEqual(isinstance(made(one), getattr(errors, other)), one == other, (one, other))

    def test_each_is_raised_and_taken_as_a_post_error(self):
        for name in PLAIN + tuple(FIELDS):
            with self.assertRaises(errors.PostError):
                raise made(name)


class Fields(unittest.TestCase):
    def test_plain_ones_are_made_without_fields(self):
        for name in PLAIN:
            error = getattr(errors, name)()
            self.assertEqual(vars(error), {}, name)

    def test_fields_in_their_order(self):
        for name, fields in FIELDS.items():
            self.assertEqual(vars(made(name)), {field: VALUES[field] for field in fields}, name)

    def test_fields_of_a_raised_one(self):
        with self.assertRaises(errors.Cut) as taken:
            raise errors.Cut([], "bob", [0])
        self.assertEqual(taken.exception.fallen, [])
        self.assertEqual(taken.exception.name, "bob")
        self.assertEqual(taken.exception.numbers, [0])

    def test_fields_are_needed(self):
        for name in FIELDS:
            with self.assertRaises(TypeError, msg=name):
                getattr(errors, name)()

    def test_lists_changed_later_change_no_cut(self):
        fallen = [1]
        numbers = [2, 3]
        error = errors.Cut(fallen, "ada", numbers)
        fallen.append(9)
        numbers.clear()
        self.assertEqual((error.fallen, error.numbers), ([1], [2, 3]))


if __name__ == "__main__":
    unittest.main()
