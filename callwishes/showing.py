"""Houses and rows of deeds, shown as texts."""

from callwishes.lines import letter_of, pattern_text
from callwishes.wishes import all_deeds
from callwishes.words import joined, lined_text


def rule_row(rule):
    """The row of a rule."""
    state, kind, pattern, tests, act, then = rule
    return f"rule {state} {kind} {pattern_text(pattern)} {joined(tests)} {lined_text(act)} {then}"


def tale_row(rule):
    """The row of a tale's rule."""
    state, word, patterns, tests, then = rule
    shown = [pattern_text(pattern) for pattern in patterns]
    behind = "!" if then is None else str(then)
    return f"tale {state} {word} {joined(shown)} {joined(tests)} {behind}"


def wish_rows(wish):
    """The rows of a wish."""
    me, rules, tale = wish
    return [f"wish {letter_of(me)}", *[rule_row(rule) for rule in rules], *[tale_row(rule) for rule in tale]]


def deeds_row(n, deeds):
    """The row of a house's deeds."""
    if deeds == all_deeds(n):
        return "deeds all"
    return " ".join(["deeds", *[lined_text(deed) for deed in deeds]])


def show_house(house):
    """The text of the house."""
    n, wishes, deeds = house
    rows = [f"lines {n}"]
    for wish in wishes:
        rows.extend(wish_rows(wish))
    return "\n".join([*rows, deeds_row(n, deeds)])


def show_row(deeds):
    """The text of a row of deeds."""
    return " ".join(lined_text(deed) for deed in deeds) if len(deeds) > 0 else "-"
