"""Words of texts: states, lines, tests, patterns, and words with lines behind them, as `send:b` or `dial:a:b`.

A word that is none is read as what no look takes, -1 for a number; the looks at whole rows then refuse it.
"""

from callwishes.lines import LETTERS, letter_of, pattern_in

FIGURES = "01234567"


def sign_in(word, signs):
    """The place of the one sign that the word is, or -1."""
    return signs.find(word) if len(word) == 1 else -1


def state_in(word):
    """The state, or the wish's number, that the word is, or -1."""
    return sign_in(word, FIGURES)


def line_in(word):
    """The line that the letter is, or -1."""
    return sign_in(word, LETTERS)


def parts_in(word):
    """The parts that commas join to the word, `-` being none."""
    return [] if word == "-" else word.split(",")


def joined(parts):
    """The word to which commas join the parts, `-` of none."""
    return ",".join(parts) if len(parts) > 0 else "-"


def patterns_in(word):
    """The patterns that commas join to the word."""
    return tuple(pattern_in(part) for part in parts_in(word))


def lined_in(word):
    """(word, line, ..) of a word with the letters of its lines behind it, each behind a colon."""
    head, *letters = word.split(":")
    return (head, *[line_in(letter) for letter in letters])


def lined_text(thing):
    """The word that lined_in reads as this tuple."""
    head, *lines = thing
    return ":".join([head, *[letter_of(line) for line in lines]])
