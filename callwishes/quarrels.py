"""Quarrels: wishes by themselves and by twos, and the deeds by which tales break."""

from callwishes.books import quiet_paper
from callwishes.deeds import stepped
from callwishes.points import begun
from callwishes.runs import broken


def with_order(house, p):
    """The house with the wishes of these numbers alone, in this order."""
    n, wishes, deeds = house
    return (n, tuple(wishes[number] for number in p), deeds)


def is_quiet(house, p):
    """Whether no tale breaks in the house with these wishes alone, in this order."""
    return quiet_paper(with_order(house, p))[0] == "quiet"


def alone(house):
    """The wishes, rising, that break in the house with them alone."""
    return tuple(number for number in range(len(house[1])) if not is_quiet(house, (number,)))


def told_of_pair(house, i, j):
    """In which orders two wishes are quiet with each other."""
    is_first_quiet = is_quiet(house, (i, j))
    is_second_quiet = is_quiet(house, (j, i))
    if is_first_quiet and is_second_quiet:
        return "both"
    if is_first_quiet:
        return "first"
    return "second" if is_second_quiet else "none"


def pairs(house):
    """(i, j, told) of all twos of wishes, i below j."""
    many = len(house[1])
    return tuple((i, j, told_of_pair(house, i, j)) for i in range(many) for j in range(i + 1, many))


def without_other_tales(house, k):
    """The house in which the wish k alone has a tale."""
    n, wishes, deeds = house
    kept = tuple((me, rules, tale if number == k else ()) for number, (me, rules, tale) in enumerate(wishes))
    return (n, kept, deeds)


def least_row(house, k):
    """The first row, by size, that breaks the tale of the wish k, or None."""
    paper = quiet_paper(without_other_tales(house, k))
    return paper[1] if paper[0] == "quarrel" else None


def whose(house, row):
    """For each deed of the row the wishes, rising, that break by it."""
    told = []
    ahead = begun(house)
    for deed in row:
        scene, events = stepped(house, ahead, deed)
        broken_ahead = broken(ahead)
        told.append(tuple(number for number in broken(scene) if number not in broken_ahead))
        ahead = scene
    return tuple(told)
