"""Point 25, and 2's "of anything": which papers show a quiet order, or a quarrel in each."""

import itertools
import unittest

from callwishes.books import quiet_paper
from callwishes.orderlooks import shows_order
from callwishes.orders import order_paper
from callwishes.points import begun
from callwishes.quarrels import with_order
from callwishes.runs import broken, ran
from helper import (
    ALWAYS, KEPTOUT, MANY_BY_ORDER, NEED_EACH_OTHER, SMALL_HOUSES, WHOLE_THINGS, LookCase, house_of, ordered_house,
    put, row_in, scene_of,
)

ORDER_THINGS = [*WHOLE_THINGS, "order", "none", ("order",), ("none",), ("order", ()), ("none", ()), ["none", ()],
                ("order", (), ()), ("none", (), ()), {"order": ()}]


def with_papers(house):
    """The house's paper of each order."""
    return {p: quiet_paper(with_order(house, p)) for p in itertools.permutations(range(len(house[1])))}


class ToldPapers(unittest.TestCase):
    def test_what_is_told_is_taken(self):
        houses = [*SMALL_HOUSES.values(), MANY_BY_ORDER, house_of(KEPTOUT, ALWAYS, n=3, deeds="all"),
                  house_of(*NEED_EACH_OTHER, n=3, deeds="all")]
        houses += [ordered_house(many, *befores) for many, befores in (
            (0, ()), (1, ()), (2, ((0, 1), (1, 0))), (3, ((2, 0),)), (3, ((0, 1), (1, 2), (2, 0))),
            (4, ((1, 0), (0, 3), (3, 2))), (4, ((0, 3), (3, 0))))]
        for at, house in enumerate(houses):
            paper = order_paper(house)
            before = repr((house, paper))
            self.assertEqual([shows_order(house, paper) for _ in range(2)], [True, True], at)
            self.assertEqual(repr((house, paper)), before)

    def test_of_another_house(self):
        first, second, none = (ordered_house(2, *befores) for befores in (((0, 1),), ((1, 0),), ((0, 1), (1, 0))))
        for one, other in itertools.permutations((first, second, none), 2):
            self.assertIs(shows_order(one, order_paper(other)), False)
        self.assertIs(shows_order(ordered_house(3, (0, 1)), order_paper(first)), False)
        self.assertIs(shows_order(ordered_house(1), order_paper(ordered_house(0))), False)

    def test_of_anything(self):
        for house in (ordered_house(0), ordered_house(1), ordered_house(2, (1, 0)), ordered_house(2, (0, 1), (1, 0))):
            for at, thing in enumerate(ORDER_THINGS):
                self.assertIs(shows_order(house, thing), False, at)


class QuietOrders(LookCase):
    HOUSE = ordered_house(3, (2, 0))
    PAPERS = with_papers(HOUSE)

    def look(self, thing):
        return shows_order(self.HOUSE, thing)

    def test_any_quiet_order(self):
        for p, paper in self.PAPERS.items():
            self.assertIs(self.look(("order", p, paper)), p.index(2) < p.index(0), p)
        house = ordered_house(4, (1, 0), (2, 3))
        for p, paper in with_papers(house).items():
            is_quiet = p.index(1) < p.index(0) and p.index(2) < p.index(3)
            self.assertIs(shows_order(house, ("order", p, paper)), is_quiet, p)

    def test_no_wishes_and_one(self):
        house = house_of(n=2, deeds="all")
        self.assertIs(shows_order(house, ("order", (), quiet_paper(house))), True)
        for p in ((0,), [], None, 0, ""):
            self.assertIs(shows_order(house, ("order", p, quiet_paper(house))), False)
        house = house_of(ALWAYS, n=3, deeds="dial:a:b")
        for p in ((), (1,), (0, 0), (False,), (0.0,), 0, [0], (-1,)):
            self.assertIs(shows_order(house, ("order", p, quiet_paper(house))), False)
        self.assertIs(shows_order(house, ("order", (0,), quiet_paper(house))), True)

    def test_papers_of_other_orders_of_scenes_and_with_more_scenes(self):
        house = house_of(("a", "0 drop * - pass 1"), ("b",), n=2, deeds="drop:a turn")
        for p in ((0, 1), (1, 0)):
            scenes = quiet_paper(with_order(house, p))[1]
            # Of these turn alone leads to another one; of the busy one drop does, too.
            more = tuple(((), night, minds, (5, 5)) for night in (0, 1) for minds in ((3, 3), (2, 5)))
            busy = tuple((((0, 1, "busy", 0),), night, (3, 3), (5, 5)) for night in (0, 1))
            self.assertIs(shows_order(house, ("order", p, ("quiet", scenes[::-1]))), True)
            self.assertIs(shows_order(house, ("order", p, ("quiet", more + scenes))), True)
            self.assertIs(shows_order(house, ("order", p, ("quiet", more[1:] + scenes))), False)
            self.assertIs(shows_order(house, ("order", p, ("quiet", busy + scenes))), False)
            self.assertIs(shows_order(house, ("order", p, ("quiet", more + busy + scenes))), True)
            self.assertIs(shows_order(house, ("order", p, ("quiet", scenes[1:]))), False)
            self.assertIs(shows_order(house, ("order", p, ("quiet", scenes + scenes[:1]))), False)

    def test_the_paper_is_of_that_order(self):
        # By drop:a the mind of the first wish alone goes on.
        house = house_of(("a", "0 drop * - pass 1"), ("b",), n=2, deeds="drop:a turn")
        papers = with_papers(house)
        for p, of_order in itertools.product(papers, repeat=2):
            self.assertIs(shows_order(house, ("order", p, papers[of_order])), p == of_order)

    def test_orders_that_are_none(self):
        paper = self.PAPERS[(2, 0, 1)]
        self.assertIs(self.look(("order", (2, 0, 1), paper)), True)
        for p in ((2, 0), (2, 0, 1, 1), (2, 0, 0), (2, 2, 1), (2, 0, 3), (2, 0, -2), (2, 0, True), (2, False, 1),
                  (2.0, 0, 1), [2, 0, 1], (2, 0, None), ((2, 0, 1),), "201", None, {2: 0}, {2, 0, 1}, range(3)):
            self.assertIs(self.look(("order", p, paper)), False, p)

    def test_a_quarrel_in_a_quiet_ones_place(self):
        for p, paper in self.PAPERS.items():
            for of_order, other in self.PAPERS.items():
                if other[0] == "quarrel":
                    self.assertIs(self.look(("order", p, other)), False)
        self.assertIs(self.look(("none", tuple(self.PAPERS.values()))), False)

    def test_other_words_and_parts(self):
        p, paper = (2, 0, 1), self.PAPERS[(2, 0, 1)]
        for thing in (("none", p, paper), ("quiet", p, paper), ("order", paper, p), ("order", p), ("order", paper),
                      ("order", p, paper, ()), ("order", p, paper[1]), ("order", p, (paper,)), (p, paper), paper,
                      ("order", p, list(paper)), ["order", p, paper], ("Order", p, paper), (b"order", p, paper)):
            self.assertIs(self.look(thing), False)

    def test_spoilt_in_every_part(self):
        house = ordered_house(2, (1, 0), n=3)
        paper = order_paper(house)
        self.assertEqual(paper[:2], ("order", (1, 0)))
        self.check_odd_parts(lambda thing: shows_order(house, thing), paper)
        self.check_kinds(lambda thing: shows_order(house, thing), paper)

    def test_of_anything_in_it(self):
        paper = self.PAPERS[(2, 0, 1)]
        for thing in ORDER_THINGS:
            for spoilt in (("order", thing, paper), ("order", (2, 0, 1), thing), ("order", (2, 0, thing), paper),
                           ("order", (2, 0, 1), ("quiet", thing)), ("quiet", thing, paper)):
                self.assertIs(self.look(spoilt), False)


class NoOrders(LookCase):
    HOUSE = ordered_house(3, (0, 1), (1, 2), (2, 0))
    PAPERS = tuple(with_papers(HOUSE).values())

    def look(self, thing):
        return shows_order(self.HOUSE, thing)

    def test_a_paper_missing_or_more(self):
        self.assertEqual(len(self.PAPERS), 6)
        for at in range(6):
            self.assertIs(self.look(("none", self.PAPERS[:at] + self.PAPERS[at + 1:])), False)
            self.assertIs(self.look(("none", self.PAPERS + self.PAPERS[at:at + 1])), False)
        self.assertIs(self.look(("none", ())), False)

    def test_papers_in_the_orders_order(self):
        self.assertIs(self.look(("none", self.PAPERS)), True)
        taken = 0
        for papers in itertools.permutations(self.PAPERS):
            is_taken = self.look(("none", papers))
            # Two orders may have like papers, which may stand for each other.
            self.assertIs(is_taken, papers == self.PAPERS)
            taken += is_taken
        self.assertGreater(taken, 0)

    def test_papers_of_any_shortest_row_and_with_more_scenes(self):
        house = house_of(("b", "tale 0 rings *,b - !"), n=3, deeds="dial:a:b dial:c:b turn")
        paper = quiet_paper(house)
        scenes = (scene_of(house, night=1), begun(house))
        for row, layers, is_right in (("dial:a:b", paper[3], True), ("dial:c:b", (scenes,), True), ("turn", paper[3], False),
                                      ("dial:a:b", (scenes[:1],), False), ("dial:a:b", paper[3] * 2, False)):
            self.assertIs(shows_order(house, ("none", (("quarrel", row_in(row), 0, layers),))), is_right)

    def test_one_paper_spoilt(self):
        for at in range(6):
            paper = self.PAPERS[at]
            house = with_order(self.HOUSE, list(itertools.permutations(range(3)))[at])
            word, row, k, layers = paper
            spoilt = ran(house, row)[0]
            self.assertEqual(broken(spoilt), (k,))
            for other in (("quarrel", row, (k + 1) % 3, layers), ("quarrel", row[1:], k, layers), None, (), [],
                          ("quarrel", row, k, layers[1:]), ("quarrel", row, k, layers + ((spoilt,),)), list(paper),
                          ("quarrel", row, k, ((*layers[0], spoilt), *layers[1:])), ("quiet", (begun(house),))):
                self.assertIs(self.look(("none", put(self.PAPERS, (at,), other))), False, at)

    def test_a_quiet_one_among_them(self):
        house = ordered_house(2, (0, 1))
        papers = with_papers(house)
        self.assertIs(shows_order(house, ("none", tuple(papers.values()))), False)
        self.assertIs(shows_order(house, ("none", (papers[(1, 0)],) * 2)), False)
        self.assertIs(shows_order(house, ("none", (papers[(1, 0)],))), False)

    def test_no_wishes_and_one(self):
        house = house_of(n=2, deeds="all")
        for papers in ((), (quiet_paper(house),), ((),), None):
            self.assertIs(shows_order(house, ("none", papers)), False)
        house = house_of(("b", "tale 0 rings a,b - !"), n=2, deeds="dial:a:b")
        self.assertIs(shows_order(house, ("none", (quiet_paper(house),))), True)
        self.assertIs(shows_order(house, ("none", quiet_paper(house))), False)
        self.assertIs(shows_order(house, ("order", (0,), quiet_paper(house))), False)

    def test_other_words_and_parts(self):
        for thing in (("order", self.PAPERS), ("none", self.PAPERS, ()), ("none",), (self.PAPERS,), self.PAPERS,
                      ("none", list(self.PAPERS)), ["none", self.PAPERS], ("order", (0, 1, 2), ("none", self.PAPERS)),
                      ("order", (0, 1, 2), self.PAPERS), ("None", self.PAPERS), (None, self.PAPERS)):
            self.assertIs(self.look(thing), False)

    def test_spoilt_in_every_part(self):
        house = ordered_house(2, (0, 1), (1, 0), n=3)
        paper = order_paper(house)
        self.assertEqual(paper[0], "none")
        self.check_odd_parts(lambda thing: shows_order(house, thing), paper)
        self.check_kinds(lambda thing: shows_order(house, thing), paper)

    def test_of_anything_in_it(self):
        for thing in ORDER_THINGS:
            self.assertIs(self.look(("none", thing)), False)
            self.assertIs(self.look(("none", (*self.PAPERS[:5], thing))), False)
            self.assertIs(self.look(("none", (thing,) * 6)), False)


if __name__ == "__main__":
    unittest.main()
