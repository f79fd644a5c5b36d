"""Choices: least sets of wishes to give up, so that the others have a quiet order."""

from callwishes.orders import order_paper
from callwishes.quarrels import with_order


def parts_of(many):
    """All rising tuples of numbers below many, by size."""
    parts = [()]
    for number in range(many):
        parts = [*parts, *[(*part, number) for part in parts]]
    return sorted(parts, key=lambda part: (len(part), part))


def house_without(house, given):
    """The house without the wishes given up, the others in its order."""
    return with_order(house, tuple(number for number in range(len(house[1])) if number not in given))


def choice_papers(house):
    """(given, paper) of all rising tuples of wishes, by size: the order paper of the house without them."""
    return tuple((given, order_paper(house_without(house, given))) for given in parts_of(len(house[1])))


def is_within(part, whole):
    """Whether each number of the part is one of the whole."""
    return all(number in whole for number in part)


def least_given(papers):
    """The rising tuples, by size, that choice papers tell to leave a quiet order, and no lesser part of them."""
    least = []
    for given, paper in papers:
        # Lesser parts stand ahead, so one that leaves a quiet order, or a lesser part of it, is in least by now.
        if paper[0] == "order" and not any(is_within(part, given) for part in least):
            least.append(given)
    return least


def choices(house):
    """The list of all least rising tuples of wishes, by size, without which the others have a quiet order."""
    return least_given(choice_papers(house))
