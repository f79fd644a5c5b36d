"""Points 4 and 5: lines, patterns and tests, and point 2's "of anything"."""

import decimal
import itertools
import unittest

from callwishes.lines import are_tests, fits, is_pattern, pattern_in, pattern_text
from helper import Thorny, nested, shared

ALL_TESTS = (
    "night", "day", "talk", "mute", "held", "bare",
    "shown", "clear", "idle", "used", "hid", "named",
)


# No thing of these is a pattern, a tuple of tests, or a part of either.
ODD_THINGS = [
    True, False, -1, 4, 99, 10 ** 50, 1.0, float("nan"), 1j, decimal.Decimal(1), "x", b"", b"a", bytearray(b"a"),
    [], [0], ["night"], {}, {0: 1}, set(), {0}, frozenset((0,)), range(2), object(), Thorny(), Thorny, len,
    iter((0, 1)), Ellipsis, NotImplemented, (True,), (False, True), (None,), ((),), ((0,),), ([0],), (Thorny(),),
    nested(tuple, 40), nested(list, 40), shared(39), (1.0,), (0, 1.0), (b"night",), ("night", True),
]


class Patterns(unittest.TestCase):
    def test_all_rows_of_lines_and_none_are_patterns(self):
        for n in (2, 3, 4):
            self.assertIs(is_pattern(None, n), True)
            for size in range(1, n + 1):
                for row in itertools.combinations(range(n), size):
                    self.assertIs(is_pattern(row, n), True, row)

    def test_just_the_rising_rows_are_patterns(self):
        for n in (2, 3, 4):
            for size in range(0, 5):
                for row in itertools.product(range(-1, 6), repeat=size):
                    is_row = size > 0 and list(row) == sorted(set(row)) and row[0] >= 0 and row[-1] < n
                    self.assertIs(is_pattern(row, n), is_row, (row, n))

    def test_the_empty_row_is_none(self):
        self.assertIs(is_pattern((), 4), False)

    def test_lines_that_the_house_has_not(self):
        self.assertIs(is_pattern((2,), 2), False)
        self.assertIs(is_pattern((0, 2), 2), False)
        self.assertIs(is_pattern((3,), 4), True)
        self.assertIs(is_pattern((3,), 3), False)

    def test_no_other_thing_is_a_pattern(self):
        for at, thing in enumerate(ODD_THINGS):
            for n in (2, 3, 4):
                self.assertIs(is_pattern(thing, n), False, at)

    def test_texts_and_lists_of_lines_are_no_patterns(self):
        for thing in ("", "*", "a", "ab", [0, 1], {0: 0, 1: 1}, ("a",), ("0",)):
            self.assertIs(is_pattern(thing, 4), False, thing)

    def test_truths_are_no_lines(self):
        for thing in ((True,), (False,), (0, True), (False, 1), (True, 2)):
            self.assertIs(is_pattern(thing, 4), False, thing)


class Fitting(unittest.TestCase):
    def test_none_fits_any_line(self):
        for line in range(4):
            self.assertIs(fits(None, line), True)

    def test_a_row_fits_its_lines_alone(self):
        for size in range(1, 5):
            for row in itertools.combinations(range(4), size):
                for line in range(4):
                    self.assertIs(fits(row, line), line in set(row), (row, line))


class PatternTexts(unittest.TestCase):
    def test_texts_of_patterns(self):
        self.assertEqual(pattern_text(None), "*")
        self.assertEqual(pattern_text((0,)), "a")
        self.assertEqual(pattern_text((1, 3)), "bd")
        self.assertEqual(pattern_text((0, 1, 2, 3)), "abcd")

    def test_patterns_of_texts(self):
        self.assertIsNone(pattern_in("*"))
        self.assertEqual(pattern_in("a"), (0,))
        self.assertEqual(pattern_in("bd"), (1, 3))
        self.assertEqual(pattern_in("abcd"), (0, 1, 2, 3))

    def test_a_pattern_is_read_as_it_was_written(self):
        for size in range(1, 5):
            for row in itertools.combinations(range(4), size):
                self.assertEqual(pattern_in(pattern_text(row)), row)

    def test_just_the_rising_letters_are_patterns(self):
        for size in range(0, 4):
            for letters in itertools.product("abcdeA*0", repeat=size):
                word = "".join(letters)
                is_row = size > 0 and list(word) == sorted(set(word)) and set(word) <= set("abcd")
                if word != "*":
                    self.assertEqual(pattern_in(word) != "", is_row, word)

    def test_words_of_one_character(self):
        for at in range(300):
            word = chr(at)
            told = {"*": None, "a": (0,), "b": (1,), "c": (2,), "d": (3,)}.get(word, "")
            self.assertEqual(pattern_in(word), told, word)

    def test_words_that_are_none(self):
        words = ("", " ", "e", "aa", "ba", "abca", "abcde", "**", "a*", "*a", "A", "a ", " a", "a,b", "-", "0", "\n",
                 "a\n", "None", "\u00e4", "\ud800", "ab" * 50)
        for word in words:
            self.assertEqual(pattern_in(word), "", word)


class Tests(unittest.TestCase):
    def test_no_tests_one_test_and_all_twelve(self):
        self.assertIs(are_tests(()), True)
        self.assertIs(are_tests(ALL_TESTS), True)
        for test in ALL_TESTS:
            self.assertIs(are_tests((test,)), True)

    def test_two_are_tests_just_in_their_order(self):
        for one, other in itertools.product(range(12), repeat=2):
            self.assertIs(are_tests((ALL_TESTS[one], ALL_TESTS[other])), one < other)

    def test_three_are_tests_just_in_their_order(self):
        for places in itertools.product(range(12), repeat=3):
            is_right = places[0] < places[1] < places[2]
            self.assertIs(are_tests(tuple(ALL_TESTS[at] for at in places)), is_right)

    def test_all_but_one_are_tests(self):
        for at in range(12):
            self.assertIs(are_tests(ALL_TESTS[:at] + ALL_TESTS[at + 1:]), True)
            self.assertIs(are_tests(ALL_TESTS[:at] + ALL_TESTS[at:at + 1] + ALL_TESTS[at:]), False)

    def test_no_other_thing_is_tests(self):
        self.assertIs(are_tests(None), False)
        for at, thing in enumerate(ODD_THINGS):
            self.assertIs(are_tests(thing), False, at)
            self.assertIs(are_tests((thing,)), False, at)
            self.assertIs(are_tests(("night", thing)), False, at)

    def test_words_that_are_none(self):
        for thing in ("night", ("",), ("nights",), ("Night",), ("night ",), ("busy",), ("night,day",), ["night"]):
            self.assertIs(are_tests(thing), False, thing)


if __name__ == "__main__":
    unittest.main()
