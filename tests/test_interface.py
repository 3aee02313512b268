"""The rows of the interface: names and arguments as written, each defined in its own file."""

import inspect
import unittest

from mostpulled import (
    alone, balance, beats, boards, books, comparing, desk, errors, gains, holding, kinds, least, listing, moving,
    notation,
    plans, starts, steps, terms,
)

FUNCTIONS = {
    kinds: {
        "is_integer": ["thing"], "is_value": ["thing"], "is_force": ["thing"], "is_name": ["thing"],
        "is_term": ["thing", "size"], "is_standing": ["thing", "size"], "is_group": ["thing", "size"],
        "is_step": ["thing", "size"],
    },
    terms: {
        "argument": ["term", "standing"], "distance": ["term", "argument"], "fitting": ["term", "argument"],
        "mirrored": ["term"], "moved": ["term", "by"],
    },
    gains: {"gain": ["board", "standing", "way", "group"]},
    steps: {"best_step": ["board", "standing"], "best_steps": ["board", "standing"]},
    balance: {
        "is_balanced": ["board", "thing"], "are_pulls": ["board", "standing", "thing"], "worth": ["board", "pulls"],
        "pulls": ["board", "standing"],
    },
    beats: {
        "beat": ["board", "standing"], "runs": ["board", "standing"], "run": ["board", "standing", "beats"],
        "rest": ["board", "standing"], "trace": ["board", "standing", "limit"],
    },
    plans: {
        "apart": ["one", "other"], "exchange": ["one", "other", "numbers"], "follow": ["board", "standing", "plan"],
        "shortest": ["board", "standing", "other"], "to_best": ["board", "standing"],
    },
    starts: {"some": ["board"], "is_never": ["board", "thing"]},
    least: {
        "strain": ["board"], "is_best": ["board", "standing"], "paper": ["board"], "dial_range": ["board", "dial"],
        "gap_range": ["board", "dial", "other"], "bounds": ["board"], "chain": ["board", "dial", "other"],
        "is_chain": ["board", "dial", "other", "thing"],
    },
    listing: {"first_best": ["board", "standing"], "all_best": ["board", "limit"]},
    holding: {
        "least_at": ["board", "dial", "setting"], "forces": ["board", "dial", "setting"],
        "held": ["board", "dial", "force"], "are_held": ["board", "standing", "dial", "force", "thing"],
    },
    moving: {"after": ["board", "standing", "at", "by"], "settled": ["board", "standing", "moves"]},
    comparing: {"kinks": ["board"], "unlike": ["one", "other"]},
    alone: {"corners": ["board", "dial"]},
    notation: {
        "show_term": ["term"], "show_standing": ["standing"], "show_deed": ["deed"], "show_log": ["book"],
        "read_term": ["text", "size"], "read_standing": ["text", "size"], "read_deed": ["text", "size"],
        "read_log": ["text", "size"],
    },
    desk: {"answered": ["size", "text", "line"]},
}
METHODS = {
    boards.Board: {
        "__init__": ["size", "terms"], "terms": [], "left": ["standing"], "strain": ["standing"], "also": ["term"],
        "without": ["at"], "moved": ["at", "by"], "mirrored": [], "__len__": [], "__eq__": ["other"], "__repr__": [],
    },
    books.Book: {
        "__init__": ["size"], "do": ["deed"], "back": [], "again": [], "insert": ["at", "deed"], "log": [], "terms": [],
        "board": [], "at_rest": [], "left": [], "done": [], "since": [], "past": ["count"], "copied": [], "__len__": [],
        "__eq__": ["other"],
    },
    desk.Desk: {"__init__": ["size"], "execute": ["line"]},
}
CLASSES = {
    errors: ["PullError", "Wrong", "NotAllowed", "NoneAllowed", "BadStep", "TooMany", "HasStop", "NotRest", "NotWish",
             "TooFar", "NoDeed", "Taken", "Unknown", "Broken", "Nothing", "NoText", "NoCommand"],
    boards: ["Board"],
    books: ["Book"],
    desk: ["Desk"],
}


class Interface(unittest.TestCase):
    def test_functions(self):
        for module, rows in FUNCTIONS.items():
            for name, arguments in rows.items():
                with self.subTest(f"{module.__name__}.{name}"):
                    function = getattr(module, name)
                    self.assertTrue(inspect.isfunction(function))
                    self.assertEqual(function.__module__, module.__name__)
                    self.assertEqual(list(inspect.signature(function).parameters), arguments)

    def test_classes(self):
        for module, names in CLASSES.items():
            for name in names:
                with self.subTest(f"{module.__name__}.{name}"):
                    made = getattr(module, name)
                    self.assertTrue(inspect.isclass(made))
                    self.assertEqual(made.__module__, module.__name__)

    def test_methods_stand_in_the_class_itself(self):
        for made, rows in METHODS.items():
            for name, arguments in rows.items():
                with self.subTest(f"{made.__name__}.{name}"):
                    method = vars(made)[name]
                    self.assertTrue(inspect.isfunction(method))
                    self.assertEqual(list(inspect.signature(method).parameters)[1:], arguments)

    def test_property_and_class_method_of_board(self):
        self.assertIsInstance(vars(boards.Board)["size"], property)
        self.assertIsInstance(vars(boards.Board)["free"], classmethod)
        self.assertEqual(list(inspect.signature(boards.Board.free).parameters), ["size"])

    def test_properties_of_book(self):
        for name in ("size", "standing"):
            self.assertIsInstance(vars(books.Book)[name], property)

    def test_arguments_by_keyword(self):
        for module, rows in FUNCTIONS.items():
            for name in rows:
                for argument in inspect.signature(getattr(module, name)).parameters.values():
                    by_keyword = argument.kind == inspect.Parameter.KEYWORD_ONLY
                    self.assertEqual(by_keyword, (name, argument.name) == ("all_best", "limit"))
                    self.assertEqual(argument.default, 400 if by_keyword else inspect.Parameter.empty)

    def test_runs_is_a_generator(self):
        self.assertTrue(inspect.isgeneratorfunction(beats.runs))
        self.assertTrue(inspect.isgenerator(beats.runs(boards.Board.free(1), (0,))))


if __name__ == "__main__":
    unittest.main()
