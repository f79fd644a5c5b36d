"""Orders of a house's wishes: the first in which all tales are kept, or a quarrel in each."""

from callwishes.books import quiet_paper
from callwishes.quarrels import with_order


def orders_of(many):
    """All orders of the numbers below many, as tuples rise."""
    orders = [()]
    for size in range(many):
        orders = [(*order, number) for order in orders for number in range(many) if number not in order]
    return orders


def order_paper(house):
    """("order", p, paper) of the first quiet order, else ("none", papers) of all orders."""
    papers = []
    for p in orders_of(len(house[1])):
        paper = quiet_paper(with_order(house, p))
        if paper[0] == "quiet":
            return ("order", p, paper)
        papers.append(paper)
    return ("none", tuple(papers))
