"""Point 21 with the definitions of point 2: which things are of which kind."""

import unittest

from mostpulled.kinds import (
    is_force, is_group, is_integer, is_name, is_standing, is_step, is_term, is_value,
)
from things import nested, odd_things

SIZES = range(1, 9)
SIZELESS = {"integer": is_integer, "value": is_value, "force": is_force, "name": is_name}
SIZED = {"term": is_term, "standing": is_standing, "group": is_group, "step": is_step}
MOST = 10 ** 18


def kinds_of(thing, size):
    """Return the words of all kinds that a thing is of."""
    return ([word for word, asked in SIZELESS.items() if asked(thing)]
            + [word for word, asked in SIZED.items() if asked(thing, size)])


class KindsTest(unittest.TestCase):
    def check(self, wanted, asked, things, *size):
        """Check that asked answers wanted itself for each thing and leaves the thing as it was."""
        for thing in things:
            before = repr(thing)
            with self.subTest(asked.__name__, thing=before[:80], size=size):
                self.assertIs(asked(thing, *size), wanted)
                self.assertEqual(repr(thing), before)

    def yes(self, asked, things, *size):
        self.check(True, asked, things, *size)

    def no(self, asked, things, *size):
        self.check(False, asked, things, *size)


class Example(unittest.TestCase):
    def test_point_21(self):
        found = [is_term(('wish', 1, 0, 5, 3), 2), is_term(('tie', 1, 1, 0, 5, 3), 2),
                 is_step((1, [0, 1]), 2), is_step((1, [1, 0]), 2)]
        self.assertEqual(found, [True, False, True, False])


class AnyValue(KindsTest):
    def test_odd_things_are_of_no_kind(self):
        for asked in SIZELESS.values():
            self.no(asked, odd_things())
        for size in SIZES:
            for asked in SIZED.values():
                self.no(asked, odd_things(), size)

    def test_a_thing_of_one_kind_is_not_of_the_others(self):
        wanted = [
            (0, ["integer", "value"]), (1, ["integer", "value", "force"]), (31, ["integer", "value"]),
            (-MOST - 1, ["integer"]), ("wish", ["name"]), (("wish", 0, 0, 0, 1), ["term"]), ((0, 1), ["standing"]),
            ([0, 1], ["group"]), ((1, [0, 1]), ["step"]), ((1, 1), ["standing"]), ([1, [0, 1]], []),
            ([("stop", 0, 0, 0)], []), ([(0, 1)], []), (["wish"], []), ([[0, 1]], []), (((1, [0, 1]),), []),
        ]
        for thing, words in wanted:
            with self.subTest(repr(thing)):
                self.assertEqual(kinds_of(thing, 2), words)

    def test_lists_inside_a_thing_are_left_alone(self):
        group, other = [0, 1], [1, 0]
        self.assertIs(is_step((1, group), 2), True)
        self.assertIs(is_step((1, other), 2), False)
        self.assertIs(is_group(other, 2), False)
        self.assertEqual([group, other], [[0, 1], [1, 0]])


class Integers(KindsTest):
    def test_integers(self):
        self.yes(is_integer, [0, 1, -1, 2, 30, -MOST, MOST, MOST + 1, 10 ** 40 - 1, -10 ** 40 + 1, 2 ** 64])

    def test_not_true_and_false(self):
        self.no(is_integer, [True, False, None, "1", "", b"1", [1], (1,), {1: 1}, {1}])

    def test_answer_depends_on_no_size_of_the_integer(self):
        self.yes(is_integer, [10 ** 60, -10 ** 60])


class Values(KindsTest):
    def test_values(self):
        self.yes(is_value, [0, 1, -1, 31, MOST - 1, MOST, -MOST + 1, -MOST])

    def test_one_beyond_and_far_beyond(self):
        self.no(is_value, [MOST + 1, -MOST - 1, 10 ** 40 - 1, -10 ** 40 + 1])

    def test_other_things(self):
        self.no(is_value, [True, False, None, "0", [0], (0,), {}])


class Forces(KindsTest):
    def test_all_forces(self):
        self.yes(is_force, range(1, 31))

    def test_beyond(self):
        self.no(is_force, [0, 31, -1, -30, MOST, -MOST, 10 ** 40 - 1, -10 ** 40 + 1])

    def test_other_things(self):
        self.no(is_force, [True, False, None, "1", [1], (1,), {1: 1}])


class Names(KindsTest):
    def test_names(self):
        self.yes(is_name, ["a", "z", "m", "low", "wish", "abcdefgh", "zzzzzzzz", "ijklmnop", "qrstuvwx", "yz"])

    def test_lengths(self):
        self.no(is_name, ["", "abcdefghi", "a" * 16, "a" * 10000])
        self.yes(is_name, ["a" * many for many in range(1, 9)])

    def test_another_character_at_each_place(self):
        for other in "AZ09 \n_-~`{@[\"'/:":
            self.no(is_name, [other])
            for many in (2, 3, 8):
                for at in range(many):
                    self.no(is_name, ["a" * at + other + "a" * (many - at - 1)])

    def test_other_things(self):
        self.no(is_name, [None, True, 1, b"a", ["a"], ("a",), ["a", "b"], {"a": 1}, {"a"}, ()])


def term_of(word, dials=(0, 1), ends=(0, 5), force=3):
    """Return the term of a word with as many of these parts as the word needs."""
    dials = dials if word in ("tie", "bar") else dials[:1]
    return (word, *dials, *ends, force) if word in ("wish", "tie") else (word, *dials, *ends)


WORDS = ("wish", "tie", "stop", "bar")
TWO_DIALS = ("tie", "bar")
FORCED = ("wish", "tie")


class Terms(KindsTest):
    def test_each_word(self):
        self.yes(is_term, [("wish", 0, 0, 5, 3), ("tie", 0, 1, 0, 5, 3), ("stop", 0, 0, 5), ("bar", 0, 1, 0, 5)], 2)
        self.yes(is_term, [("wish", 1, -3, 5, 1), ("tie", 1, 0, 0, 5, 30), ("stop", 1, 0, 5), ("bar", 1, 0, 0, 5)], 2)

    def test_ends(self):
        good = [(0, 0), (-MOST, MOST), (-MOST, -MOST), (MOST, MOST), (MOST - 1, MOST), (-5, -4), (7, 7), (-1, 0)]
        bad = [(1, 0), (MOST, -MOST), (-4, -5), (MOST, MOST - 1), (0, MOST + 1), (-MOST - 1, 0), (-MOST - 1, MOST + 1),
               (MOST + 1, MOST + 1), (-MOST - 1, -MOST - 1), (0, 10 ** 40 - 1), (True, 5), (0, True), (False, 5),
               (None, 5), (0, None), ("0", 5), (0, "5"), ([0], 5), (0, (5,)), ({}, {}), ((), ()), ((0, 5), 5)]
        for word in WORDS:
            self.yes(is_term, [term_of(word, ends=ends) for ends in good], 2)
            self.no(is_term, [term_of(word, ends=ends) for ends in bad], 2)

    def test_dials(self):
        bad = [(-1, 1), (2, 1), (3, 1), (10 ** 39, 1), (-2, 1), (True, 0), (False, 1), (None, 1), ("0", 1), ([0], 1),
               ((0,), 1), ({}, 1)]
        for word in WORDS:
            self.yes(is_term, [term_of(word, dials=dials) for dials in [(0, 1), (1, 0)]], 2)
            self.no(is_term, [term_of(word, dials=dials) for dials in bad], 2)

    def test_other_dials(self):
        bad = [(0, 0), (1, 1), (0, -1), (1, -1), (0, 2), (1, 2), (0, 10 ** 39), (0, True), (1, False), (0, None),
               (0, "1"), (0, [1]), (0, (1,)), (-1, -1), (2, 2), (2, 3), (-1, -2)]
        for word in TWO_DIALS:
            self.no(is_term, [term_of(word, dials=dials) for dials in bad], 2)

    def test_dials_of_each_size(self):
        for size in SIZES:
            for word in WORDS:
                dials = [(dial, (dial + 1) % size) for dial in range(size)]
                if word in TWO_DIALS and size == 1:
                    self.no(is_term, [term_of(word, dials=pair) for pair in [(0, 0), (0, 1), (1, 0)]], size)
                else:
                    self.yes(is_term, [term_of(word, dials=pair) for pair in dials], size)
                self.no(is_term, [term_of(word, dials=(size, 0)), term_of(word, dials=(-1, 0))], size)
                if word in TWO_DIALS:
                    self.no(is_term, [term_of(word, dials=(0, size)), term_of(word, dials=(0, -1))], size)

    def test_forces(self):
        for word in FORCED:
            self.yes(is_term, [term_of(word, force=force) for force in range(1, 31)], 2)
            bad = [0, 31, -1, -30, MOST, True, False, None, "3", [3], (3,), {}]
            self.no(is_term, [term_of(word, force=force) for force in bad], 2)

    def test_number_of_parts(self):
        for word in WORDS:
            term = term_of(word)
            self.no(is_term, [term[:many] for many in range(len(term))], 2)
            self.no(is_term, [term + (part,) for part in (0, 1, 3, None, "")], 2)
            self.no(is_term, [term[:at] + term[at + 1:] for at in range(len(term))], 2)
            self.no(is_term, [term + term, term * 3, (term,), term[::-1]], 2)

    def test_other_words(self):
        others = ["", "Wish", "WISH", "wishes", "wis", " wish", "wish ", "wish\n", "ties", "step", "add", b"wish", None,
                  True, 0, 1, ["wish"], ("wish",), {"wish": 1}, {}, ()]
        for word in WORDS:
            term = term_of(word)
            self.no(is_term, [(other, *term[1:]) for other in others], 2)

    def test_another_container(self):
        for word in WORDS:
            term = term_of(word)
            self.no(is_term, [list(term), [term], (term,), {word: term}, dict(enumerate(term)), str(term), word], 2)

    def test_parts_of_another_word(self):
        self.no(is_term, [("wish", 0, 1, 0, 5, 3), ("tie", 0, 0, 5, 3), ("stop", 0, 0, 5, 3), ("bar", 0, 0, 5),
                          ("wish", 0, 0, 5), ("tie", 0, 1, 0, 5), ("stop", 0, 1, 0, 5), ("bar", 0, 1, 0, 5, 3)], 2)


class Standings(KindsTest):
    def test_each_length(self):
        for size in SIZES:
            for many in range(10):
                self.check(many == size, is_standing, [(0,) * many, tuple(range(many)), (-7,) * many], size)

    def test_settings(self):
        good = [0, -1, 5, MOST, -MOST, MOST + 1, -MOST - 1, 10 ** 40 - 1, -10 ** 40 + 1, 10 ** 45]
        bad = [True, False, None, "0", "", [0], (0,), {}, b"0", nested(4, list, 0)]
        for at in range(3):
            self.yes(is_standing, [(1,) * at + (setting,) + (2,) * (2 - at) for setting in good], 3)
            self.no(is_standing, [(1,) * at + (setting,) + (2,) * (2 - at) for setting in bad], 3)

    def test_another_container(self):
        for size in SIZES:
            self.no(is_standing, [[0] * size, ((0,) * size,), [(0,) * size], {k: 0 for k in range(size)}, "0" * size,
                                  b"0" * size, set(range(size)), range(size), size, 0, None], size)


class Groups(KindsTest):
    def test_all_groups_of_each_size(self):
        for size in SIZES:
            for mask in range(1, 2 ** size):
                self.yes(is_group, [[dial for dial in range(size) if mask >> dial & 1]], size)

    def test_empty(self):
        for size in SIZES:
            self.no(is_group, [[]], size)

    def test_not_ascending(self):
        self.no(is_group, [[1, 0], [0, 2, 1], [1, 0, 2], [2, 1, 0], [0, 1, 3, 2]], 4)

    def test_a_dial_twice(self):
        self.no(is_group, [[0, 0], [1, 1], [0, 1, 1], [0, 0, 1], [0, 1, 0], [3, 3]], 4)

    def test_dials_that_there_are_not(self):
        for size in SIZES:
            self.no(is_group, [[-1], [size], [-1, 0], [0, size], [-2, -1], [size, size + 1], [10 ** 39]], size)

    def test_other_dials(self):
        self.no(is_group, [[True], [False], [0, True], [False, 1], [None], ["0"], ["a", "b"], [[0]], [(0,)], [0, None],
                           [0, "1"], [None, 1], [[0], [1]], [{}], [0, [1]]], 2)

    def test_another_container(self):
        self.no(is_group, [(0,), (0, 1), {0: 1}, {0, 1}, "01", b"\x00\x01", range(2), 0, None, ([0, 1],), [[0, 1]]], 2)


class Steps(KindsTest):
    def test_ways(self):
        self.yes(is_step, [(1, [0]), (-1, [0]), (1, [1]), (-1, [0, 1])], 2)
        self.no(is_step, [(way, [0]) for way in (0, 2, -2, 10 ** 39, True, False, None, "1", "up", [1], (1,), {})], 2)

    def test_groups(self):
        self.no(is_step, [(1, group) for group in (
            [], [1, 0], [0, 0], [2], [-1], [0, 2], [True], (0,), (0, 1), 0, None, "0", {0: 1}, [[0]], [None])], 2)
        for size in SIZES:
            self.yes(is_step, [(1, [size - 1]), (-1, list(range(size)))], size)
            self.no(is_step, [(1, [size]), (-1, list(range(size + 1)))], size)

    def test_number_of_parts(self):
        self.no(is_step, [(), (1,), ([0],), (1, [0], 1), (1, [0], [0]), ((1, [0]),), ([0], 1), (1, 1), ([0], [0])], 2)

    def test_another_container(self):
        self.no(is_step, [[1, [0]], {1: [0]}, "10", [(1, [0])], 1, None, ((1, [0]), (1, [1]))], 2)


if __name__ == "__main__":
    unittest.main()
