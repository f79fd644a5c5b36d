"""Point 25: papers of orders."""

import itertools
import unittest

from callwishes.books import quiet_paper
from callwishes.errors import TooMany
from callwishes.orders import order_paper
from callwishes.quarrels import with_order
from helper import (
    ALWAYS, KEPTOUT, MANY_BY_ORDER, NEED_EACH_OTHER, SMALL_HOUSES, has_told_kinds, house_of, ordered_house,
)


def paper_by_orders(house):
    """The order paper, from the papers of all orders."""
    papers = []
    for p in itertools.permutations(range(len(house[1]))):
        paper = quiet_paper(with_order(house, p))
        if paper[0] == "quiet":
            return ("order", p, paper)
        papers.append(paper)
    return ("none", tuple(papers))


class OrderPaper(unittest.TestCase):
    def check_order(self, house, p):
        self.assertEqual(order_paper(house), ("order", p, quiet_paper(with_order(house, p))))

    def check_none(self, house, many):
        word, papers = order_paper(house)
        self.assertEqual((word, len(papers)), ("none", many))
        for p, paper in zip(itertools.permutations(range(len(house[1]))), papers):
            self.assertEqual(paper[0], "quarrel")
            self.assertEqual(paper, quiet_paper(with_order(house, p)), p)

    def test_of_no_wishes(self):
        for house in (house_of(n=2), house_of(n=2, deeds="all"), house_of(n=3, deeds="all")):
            self.check_order(house, ())

    def test_of_one_wish(self):
        self.check_order(house_of(ALWAYS, n=3, deeds="all"), (0,))
        self.check_none(house_of(("b", "tale 0 rings a,b - !"), n=2, deeds="all"), 1)

    def test_of_two_wishes(self):
        self.check_order(ordered_house(2), (0, 1))
        self.check_order(ordered_house(2, (0, 1)), (0, 1))
        self.check_order(ordered_house(2, (1, 0)), (1, 0))
        self.check_none(ordered_house(2, (0, 1), (1, 0)), 2)
        self.check_order(house_of(KEPTOUT, ALWAYS, n=3, deeds="all"), (1, 0))

    def test_of_three_wishes(self):
        self.check_order(ordered_house(3, (2, 0)), (1, 2, 0))
        self.check_order(ordered_house(3, (2, 1), (1, 0)), (2, 1, 0))
        self.check_none(ordered_house(3, (0, 1), (1, 2), (2, 0)), 6)

    def test_of_four_wishes_the_first_a_middle_and_the_last_order(self):
        self.check_order(ordered_house(4), (0, 1, 2, 3))
        self.check_order(ordered_house(4, (0, 1), (1, 2), (2, 3)), (0, 1, 2, 3))
        self.check_order(ordered_house(4, (1, 0), (0, 3), (3, 2)), (1, 0, 3, 2))
        self.check_order(ordered_house(4, (2, 3), (3, 0), (0, 1)), (2, 3, 0, 1))
        self.check_order(ordered_house(4, (3, 2), (2, 1), (1, 0)), (3, 2, 1, 0))

    def test_of_several_quiet_orders_the_first(self):
        self.check_order(ordered_house(4, (3, 1)), (0, 2, 3, 1))
        self.check_order(ordered_house(4, (1, 0), (3, 2)), (1, 0, 3, 2))
        self.check_order(ordered_house(4, (3, 0), (3, 1)), (2, 3, 0, 1))

    def test_of_four_wishes_without_a_quiet_order(self):
        self.check_none(ordered_house(4, (0, 3), (3, 0)), 24)
        self.check_none(ordered_house(4, (0, 1), (1, 3), (3, 0)), 24)

    def test_all_wishes_stand_in_it(self):
        # Each breaks alone, and both keep their tales together.
        house = house_of(*NEED_EACH_OTHER, n=3, deeds="dial:a:b dial:c:b")
        self.check_order(house, (0, 1))
        self.check_none(with_order(house, (1,)), 1)

    def test_as_papers_of_all_orders_have_it(self):
        for name, house in SMALL_HOUSES.items():
            self.assertEqual(order_paper(house), paper_by_orders(house), name)
        deeds = "dial:a:b dial:c:b take:b take:c drop:b"
        for house in (house_of(KEPTOUT, ALWAYS, KEPTOUT, n=3, deeds=deeds), house_of(ALWAYS, ALWAYS, n=3, deeds=deeds)):
            self.assertEqual(order_paper(house), paper_by_orders(house))

    def test_beyond_four_wishes_none_is_refused(self):
        self.assertEqual(order_paper(ordered_house(5, (1, 0)))[:2], ("order", (1, 0, 2, 3, 4)))

    def test_too_many_behind_the_told_one_is_not_met(self):
        self.check_order(MANY_BY_ORDER, (0, 1))
        with self.assertRaises(TooMany):
            quiet_paper(with_order(MANY_BY_ORDER, (1, 0)))

    def test_too_many_up_to_the_told_one(self):
        with self.assertRaises(TooMany):
            order_paper(with_order(MANY_BY_ORDER, (1, 0)))

    def test_too_many_behind_a_quarrel(self):
        # The second wish wants calls sent, which the first one shuts; where it stands ahead, its minds are too many.
        n, wishes, deeds = MANY_BY_ORDER
        rules = tuple((state, "in", None, (), ("send", 2), (state + 1) % 8) for state in range(8))
        sending = (1, rules, house_of(ALWAYS, n=3)[1][0][2])
        house = (n, (wishes[0], sending), deeds)
        self.assertEqual(quiet_paper(house)[:2], ("quarrel", (("dial", 0, 1),)))
        for p in ((0, 1), (1, 0)):
            with self.assertRaises(TooMany):
                order_paper(with_order(house, p))


class WhatIsTold(unittest.TestCase):
    def test_kinds_and_that_nothing_is_changed(self):
        for house in (*SMALL_HOUSES.values(), ordered_house(4, (1, 0)), ordered_house(3, (0, 1), (1, 0))):
            before = repr(house)
            told = order_paper(house)
            self.assertTrue(has_told_kinds(told))
            self.assertEqual(order_paper(house), told)
            self.assertEqual(repr(house), before)


if __name__ == "__main__":
    unittest.main()
