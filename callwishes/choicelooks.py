"""Looks at choices: whether papers show which sets of wishes are least to give up. Nothing is searched for."""

from callwishes.choices import house_without, least_given, parts_of
from callwishes.lines import is_below
from callwishes.orderlooks import shows_order
from callwishes.wishes import is_tuple_of


def is_part(thing, part):
    """Whether a thing of any kind is this tuple of numbers."""
    # Truths are kept out first: to Python they are like numbers.
    return is_tuple_of(thing, len(part)) and all(
        is_below(number, like + 1) and number == like for number, like in zip(thing, part)
    )


def shows_choice(house, given, thing):
    """Whether a thing of any kind is a pair of what is given up and an order paper shown without it."""
    return is_tuple_of(thing, 2) and is_part(thing[0], given) and shows_order(house_without(house, given), thing[1])


def are_parts(thing, parts):
    """Whether a thing of any kind is the tuple of these tuples of numbers."""
    return is_tuple_of(thing, len(parts)) and all(is_part(each, part) for each, part in zip(thing, parts))


def shows_choices(house, told, thing):
    """Whether things of any kind are the tuple of choices and the choice papers that show them."""
    parts = parts_of(len(house[1]))
    if not is_tuple_of(thing, len(parts)):
        return False
    if not all(shows_choice(house, given, pair) for given, pair in zip(parts, thing)):
        return False
    return are_parts(told, least_given(thing))
