"""Sheets: a house's text, a row `ask`, and questions, with their answers."""

from callwishes.alike import idle_wishes
from callwishes.books import quiet_paper
from callwishes.choices import choices
from callwishes.errors import NoSheet, NoText, TooMany
from callwishes.orders import order_paper
from callwishes.quarrels import pairs
from callwishes.reading import read_house, row_in
from callwishes.runs import broken, ran
from callwishes.showing import show_row
from callwishes.waysout import longest_way
from callwishes.wishes import MOST_WISHES, is_deed
from callwishes.words import lined_text

# Of houses of more wishes these can't be asked.
MOST_WISHES_OF = {"order": 4, "choices": 3}


def numbers_text(numbers):
    """The numbers, one blank between, or `-` for none."""
    return " ".join(str(number) for number in numbers) if len(numbers) > 0 else "-"


def event_text(event):
    """The event, as `rings:a:b` or `rings:a:b:hid`."""
    word, lines, hid = event
    return lined_text((word, *lines)) + (":hid" if hid == 1 else "")


def told_run(house, row):
    """The answer to `run`."""
    if len(row) == 0:
        return "-"
    return " ".join(event_text(event) for event in ran(house, row)[1][-1])


def told_broken(house, row):
    """The answer to `broken`."""
    return numbers_text(broken(ran(house, row)[0]))


def told_quiet(house):
    """The answer to `quiet`."""
    paper = quiet_paper(house)
    if paper[0] == "quiet":
        return f"quiet {len(paper[1])}"
    return f"quarrel {paper[2]} {show_row(paper[1])}"


def told_order(house):
    """The answer to `order`."""
    paper = order_paper(house)
    if paper[0] == "order":
        return " ".join(["order", *[str(number) for number in paper[1]]])
    return "none " + "; ".join(show_row(quarrel[1]) for quarrel in paper[1])


def told_pairs(house):
    """The answer to `pairs`."""
    told = [f"{i} {j} {word}" for i, j, word in pairs(house)]
    return "; ".join(told) if len(told) > 0 else "-"


def set_text(numbers):
    """A set of wishes as one word."""
    return ",".join(str(number) for number in numbers) if len(numbers) > 0 else "none"


def told_choices(house):
    """The answer to `choices`."""
    return " ".join(set_text(given) for given in choices(house))


def told_idle(house):
    """The answer to `idle`."""
    return numbers_text(idle_wishes(house))


def told_out(house):
    """The answer to `out`."""
    many = longest_way(house)[0]
    return "never" if many is None else str(many)


TELLERS = {
    "quiet": told_quiet,
    "order": told_order,
    "pairs": told_pairs,
    "choices": told_choices,
    "idle": told_idle,
    "out": told_out,
}
ROW_TELLERS = {
    "run": told_run,
    "broken": told_broken,
}


def is_question(house, question):
    """Whether a row of a sheet is a question that the house can be asked."""
    word, blank, rest = question.partition(" ")
    if blank == "":
        return word in TELLERS and len(house[1]) <= MOST_WISHES_OF.get(word, MOST_WISHES)
    row = row_in(rest)
    return word in ROW_TELLERS and row is not None and all(is_deed(deed, house[0]) for deed in row)


def right_answer(house, question):
    """The answer to the question; TooMany where it can't be told."""
    word, blank, rest = question.partition(" ")
    if blank == "":
        teller = TELLERS[word]
        return teller(house)
    row_teller = ROW_TELLERS[word]
    return row_teller(house, row_in(rest))


def answer(house, question):
    """The row that answers the question."""
    try:
        return right_answer(house, question)
    except TooMany:
        return "toomany"


def house_of_sheet(rows):
    """The house whose text the rows of a sheet ahead of `ask` are."""
    try:
        return read_house("\n".join(rows))
    except NoText as refusal:
        raise NoSheet(refusal.row) from None


def sheet_in(text):
    """(house, questions) of a sheet."""
    rows = text.split("\n")
    if "ask" not in rows:
        raise NoSheet(len(rows))
    first = rows.index("ask") + 1
    house = house_of_sheet(rows[:first - 1])
    for at, question in enumerate(rows[first:]):
        if not is_question(house, question):
            raise NoSheet(first + at)
    return (house, tuple(rows[first:]))


def answers(text):
    """The answers to a sheet's questions, a row for each."""
    house, questions = sheet_in(text)
    return "\n".join([answer(house, question) for question in questions])
