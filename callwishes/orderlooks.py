"""Looks at papers of orders: whether they show a quiet order, or a quarrel in each. Nothing is searched for."""

from callwishes.booklooks import is_paper, shows_book, shows_quarrel
from callwishes.lines import is_below
from callwishes.orders import orders_of
from callwishes.quarrels import with_order
from callwishes.wishes import is_tuple_of


def is_order(thing, many):
    """Whether a thing of any kind is an order of all numbers below many."""
    if not is_tuple_of(thing, many) or not all(is_below(number, many) for number in thing):
        return False
    return len(set(thing)) == many


def shows_an_order(house, thing):
    """Whether a thing of any kind is a paper ("order", p, paper) that shows a quiet order."""
    if not is_paper(thing, "order", 3) or not is_order(thing[1], len(house[1])):
        return False
    return shows_book(with_order(house, thing[1]), thing[2])


def shows_no_order(house, thing):
    """Whether a thing of any kind is a paper ("none", papers) that shows a quarrel in each order."""
    if not is_paper(thing, "none", 2):
        return False
    papers = thing[1]
    orders = orders_of(len(house[1]))
    if not is_tuple_of(papers, len(orders)):
        return False
    return all(shows_quarrel(with_order(house, p), paper) for p, paper in zip(orders, papers))


def shows_order(house, thing):
    """Whether a thing of any kind is a paper that shows a quiet order, or that there is none."""
    return shows_an_order(house, thing) or shows_no_order(house, thing)
