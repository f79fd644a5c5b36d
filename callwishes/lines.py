"""Lines, patterns of lines, and the tests that are asked of a line."""

LETTERS = "abcd"
# Lines that no house has can be shown, too, but are never read.
SHOWN_LETTERS = "abcdefgh"

TESTS = (
    "night", "day", "talk", "mute", "held", "bare",
    "shown", "clear", "idle", "used", "hid", "named",
)


def is_below(thing, many):
    """Whether a thing of any kind is a whole number from 0 to many - 1."""
    # To Python a truth is an int, but here it is no whole number.
    return isinstance(thing, int) and not isinstance(thing, bool) and 0 <= thing < many


def is_word(thing, words):
    """Whether a thing of any kind is one of the words."""
    # Only a text is compared: what another kind does when compared isn't known.
    return isinstance(thing, str) and thing in words


def is_rising(numbers):
    """Whether each of the numbers is greater than the one ahead of it."""
    return all(numbers[at] < numbers[at + 1] for at in range(len(numbers) - 1))


def is_pattern(thing, n):
    """Whether a thing of any kind is a pattern of a house of n lines."""
    if thing is None:
        return True
    if not isinstance(thing, tuple) or len(thing) == 0:
        return False
    return all(is_below(line, n) for line in thing) and is_rising(thing)


def fits(pattern, line):
    """Whether the line is one that the pattern means."""
    return pattern is None or line in pattern


def letter_of(line):
    """The line as it stands in texts."""
    return SHOWN_LETTERS[line:line + 1]


def pattern_text(pattern):
    """The pattern as it stands in texts."""
    if pattern is None:
        return "*"
    return "".join(letter_of(line) for line in pattern)


def pattern_in(word):
    """The pattern that the word is, or "" where it is none."""
    if word == "*":
        return None
    # find tells -1 of a letter that no line has, and is_pattern takes no such line.
    lines = tuple(LETTERS.find(letter) for letter in word)
    return lines if is_pattern(lines, len(LETTERS)) else ""


def are_tests(thing):
    """Whether a thing of any kind is a tuple of unlike tests, in their order."""
    if not isinstance(thing, tuple):
        return False
    if not all(is_word(test, TESTS) for test in thing):
        return False
    return is_rising([TESTS.index(test) for test in thing])
