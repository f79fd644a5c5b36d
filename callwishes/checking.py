"""Checked answers: whether what is told of a sheet's questions is right."""

from callwishes.booklooks import are_deeds_of
from callwishes.books import quiet_paper
from callwishes.errors import TooMany
from callwishes.orderlooks import is_order
from callwishes.orders import orders_of
from callwishes.quarrels import is_quiet, with_order
from callwishes.reading import row_in
from callwishes.runs import broken, ran
from callwishes.sheet import answer, sheet_in
from callwishes.words import state_in


def broken_by(house, text):
    """The wishes broken behind the row that the text shows, where it is a shortest such row; else none."""
    row = row_in(text)
    paper = quiet_paper(house)
    if paper[0] != "quarrel" or row is None or len(row) != len(paper[1]) or not are_deeds_of(house, row):
        return ()
    return broken(ran(house, row)[0])


def is_right_quarrel(house, rest):
    """Whether the words behind `quarrel` are a wish and any shortest row by which it breaks."""
    number, blank, row = rest.partition(" ")
    return state_in(number) in broken_by(house, row)


def is_right_order(house, told):
    """Whether the words behind `order` are any quiet order."""
    p = tuple(state_in(word) for word in told.split(" ")[1:])
    return is_order(p, len(house[1])) and is_quiet(house, p)


def is_right_none(house, rest):
    """Whether the words behind `none` are any shortest rows, one against each order."""
    rows = rest.split("; ")
    orders = orders_of(len(house[1]))
    if len(rows) != len(orders):
        return False
    return all(len(broken_by(with_order(house, p), row)) > 0 for p, row in zip(orders, rows))


def is_told_right(house, question, told):
    """Whether a told row answers the question right; TooMany where that can't be told."""
    word, blank, rest = told.partition(" ")
    if (question, word) == ("quiet", "quarrel"):
        return is_right_quarrel(house, rest)
    if (question, word) == ("order", "order"):
        return is_right_order(house, told)
    if (question, word) == ("order", "none"):
        return is_right_none(house, rest)
    return told == answer(house, question)


def is_right(house, question, told):
    """Whether a told row answers the question right."""
    try:
        return is_told_right(house, question, told)
    except TooMany:
        return False


def checked(text, told):
    """For each question of a sheet, whether the row of told answers it right."""
    house, questions = sheet_in(text)
    rows = told.split("\n")
    if len(rows) > len(questions):
        return (False,) * len(questions)
    return tuple(at < len(rows) and is_right(house, question, rows[at]) for at, question in enumerate(questions))
