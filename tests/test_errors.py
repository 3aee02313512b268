"""Points 20 and 4: the errors."""

import unittest

from mostpulled import errors
from mostpulled.errors import PullError
from things import odd_things

# The field of each error, None for one without arguments.
FIELDS = {
    "Wrong": "place", "NotAllowed": "at", "NoneAllowed": None, "BadStep": "at", "TooMany": "limit", "HasStop": "at",
    "NotRest": None, "NotWish": "at", "TooFar": None, "NoDeed": None, "Taken": "name", "Unknown": "name",
    "Broken": "at", "Nothing": None, "NoText": None, "NoCommand": None,
}
CLASSES = {word: getattr(errors, word) for word in FIELDS}
WITH = [(CLASSES[word], field) for word, field in FIELDS.items() if field is not None]
WITHOUT = [CLASSES[word] for word, field in FIELDS.items() if field is None]


class Example(unittest.TestCase):
    def test_point_20(self):
        self.assertEqual(errors.TooMany(7).limit, 7)


class Family(unittest.TestCase):
    def test_there_are_sixteen_and_their_base(self):
        found = [word for word, thing in vars(errors).items() if isinstance(thing, type)]
        self.assertEqual(len(FIELDS), 16)
        self.assertEqual(sorted(found), sorted([*FIELDS, "PullError"]))

    def test_base_is_a_direct_value_error(self):
        self.assertEqual(PullError.__bases__, (ValueError,))

    def test_each_is_directly_under_the_base(self):
        for word, made in CLASSES.items():
            with self.subTest(word):
                self.assertEqual(made.__bases__, (PullError,))

    def test_none_is_under_another(self):
        for word, made in CLASSES.items():
            for other, base in CLASSES.items():
                with self.subTest(word, other=other):
                    self.assertEqual(issubclass(made, base), word == other)


class Fields(unittest.TestCase):
    def values(self):
        return [
            0, 7, -1, 10 ** 40, 10 ** 5000, "at", "", "a\nb", [1, [2]], {"a": [1]}, (1, (2,)), True, False, None,
            *odd_things(),
        ]

    def test_object_itself_is_kept(self):
        for made, field in WITH:
            for value in self.values():
                with self.subTest(made.__name__):
                    self.assertIs(getattr(made(value), field), value)

    def test_field_is_the_only_one(self):
        for made, field in WITH:
            with self.subTest(made.__name__):
                self.assertEqual(vars(made(3)), {field: 3})

    def test_parameter_has_the_name_of_the_field(self):
        for made, field in WITH:
            with self.subTest(made.__name__):
                self.assertEqual(getattr(made(**{field: 3}), field), 3)

    def test_one_argument_is_needed(self):
        for made, _ in WITH:
            with self.subTest(made.__name__):
                with self.assertRaises(TypeError):
                    made()
                with self.assertRaises(TypeError):
                    made(1, 2)

    def test_value_is_not_copied_or_changed(self):
        for made, field in WITH:
            value = [1, {"a": [2]}]
            error = made(value)
            with self.subTest(made.__name__):
                self.assertEqual(value, [1, {"a": [2]}])
                value[1]["a"].append(3)
                self.assertEqual(getattr(error, field), [1, {"a": [2, 3]}])

    def test_errors_of_one_class_are_apart(self):
        for made, field in WITH:
            first, second = made(1), made(2)
            with self.subTest(made.__name__):
                self.assertEqual([getattr(first, field), getattr(second, field)], [1, 2])

    def test_no_argument_and_no_field(self):
        for made in WITHOUT:
            with self.subTest(made.__name__):
                self.assertEqual(vars(made()), {})


class Raising(unittest.TestCase):
    def test_caught_by_name_by_base_and_as_value_error(self):
        raised = [made(None) for made, _ in WITH] + [made() for made in WITHOUT]
        self.assertEqual(len(raised), 16)
        for error in raised:
            for base in (error.__class__, PullError, ValueError):
                with self.subTest(error.__class__.__name__, base=base.__name__):
                    with self.assertRaises(base) as caught:
                        raise error
                    self.assertIs(caught.exception, error)


if __name__ == "__main__":
    unittest.main()
