"""The rows of the interface: names and arguments as written, each defined in its own file."""

import inspect
import unittest

from mostpulled import errors, kinds, terms

FUNCTIONS = {
    kinds: {
        "is_integer": ["thing"], "is_value": ["thing"], "is_force": ["thing"], "is_name": ["thing"],
        "is_term": ["thing", "size"], "is_standing": ["thing", "size"], "is_group": ["thing", "size"],
        "is_step": ["thing", "size"],
    },
    terms: {
        "argument": ["term", "standing"], "distance": ["term", "argument"], "fitting": ["term", "argument"],
        "mirrored": ["term"], "moved": ["term", "by"],
    },
}
CLASSES = {
    errors: ["PullError", "Wrong", "NotAllowed", "NoneAllowed", "BadStep", "TooMany", "HasStop", "NotRest", "NotWish",
             "TooFar", "NoDeed", "Taken", "Unknown", "Broken", "Nothing", "NoText", "NoCommand"],
}


class Interface(unittest.TestCase):
    def test_functions(self):
        for module, rows in FUNCTIONS.items():
            for name, arguments in rows.items():
                with self.subTest(f"{module.__name__}.{name}"):
                    function = getattr(module, name)
                    self.assertTrue(inspect.isfunction(function))
                    self.assertEqual(function.__module__, module.__name__)
                    self.assertEqual(list(inspect.signature(function).parameters), arguments)

    def test_classes(self):
        for module, names in CLASSES.items():
            for name in names:
                with self.subTest(f"{module.__name__}.{name}"):
                    made = getattr(module, name)
                    self.assertTrue(inspect.isclass(made))
                    self.assertEqual(made.__module__, module.__name__)


if __name__ == "__main__":
    unittest.main()
