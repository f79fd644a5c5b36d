"""Point 26, and 2's "of anything": which things are choices and the papers that show them."""

import itertools
import unittest

from callwishes.books import quiet_paper
from callwishes.choicelooks import shows_choices
from callwishes.choices import choice_papers, choices
from callwishes.quarrels import with_order
from helper import (
    ALWAYS, KEPTOUT, MANY_BY_ORDER, NEED_EACH_OTHER, ODD_PARTS, SMALL_HOUSES, WHOLE_THINGS, LookCase, found, house_of,
    ordered_house, places_in, put,
)

BROKEN_BY_TURN = ("a", "tale 0 turn - - !")
DEEDS = "dial:a:b dial:c:b turn"
CHOICE_THINGS = [*WHOLE_THINGS, ((), ()), (((), ()),), [()], [], {(): ()}, "none", (("order", ()),)]


class ToldChoices(unittest.TestCase):
    def test_what_is_told_is_taken(self):
        houses = [*SMALL_HOUSES.values(), MANY_BY_ORDER, house_of(KEPTOUT, ALWAYS, n=3, deeds="all"),
                  house_of(*NEED_EACH_OTHER, BROKEN_BY_TURN, n=3, deeds=DEEDS)]
        houses += [ordered_house(many, *befores) for many, befores in (
            (0, ()), (1, ()), (2, ()), (2, ((0, 1), (1, 0))), (3, ((2, 0),)), (3, ((0, 1), (1, 2), (2, 0))),
            (3, ((0, 2), (2, 0))))]
        for at, house in enumerate(houses):
            told, papers = tuple(choices(house)), choice_papers(house)
            before = repr((house, told, papers))
            self.assertEqual([shows_choices(house, told, papers) for _ in range(2)], [True, True], at)
            self.assertEqual(repr((house, told, papers)), before)

    def test_the_told_list_is_no_tuple(self):
        for house in (ordered_house(0), ordered_house(2, (0, 1), (1, 0))):
            told, papers = choices(house), choice_papers(house)
            self.assertIs(shows_choices(house, told, papers), False)
            self.assertIs(shows_choices(house, tuple(told), list(papers)), False)
            self.assertIs(shows_choices(house, tuple(list(given) for given in told), papers), False)

    def test_of_another_house(self):
        houses = (ordered_house(2, (0, 1)), ordered_house(2, (1, 0)), ordered_house(2, (0, 1), (1, 0)),
                  ordered_house(3, (0, 1)), ordered_house(1))
        for one, other in itertools.permutations(houses, 2):
            self.assertIs(shows_choices(one, tuple(choices(other)), choice_papers(other)), False)
            self.assertIs(shows_choices(one, tuple(choices(one)), choice_papers(other)), False)

    def test_of_anything_both(self):
        for house in (ordered_house(0), ordered_house(1), ordered_house(2, (0, 1), (1, 0))):
            told, papers = tuple(choices(house)), choice_papers(house)
            for at, thing in enumerate(CHOICE_THINGS):
                self.assertIs(shows_choices(house, thing, papers), False, at)
                self.assertIs(shows_choices(house, told, thing), False, at)
                self.assertIs(shows_choices(house, thing, thing), False, at)
            self.assertIs(shows_choices(house, papers, told), False)
            self.assertIs(shows_choices(house, ((),), papers), told == ((),))
            self.assertIs(shows_choices(house, told, ((),)), False)


class Spoilt(LookCase):
    HOUSE = ordered_house(2, (0, 1), (1, 0), n=3)
    TOLD = tuple(choices(HOUSE))
    PAPERS = choice_papers(HOUSE)

    def look(self, thing):
        return shows_choices(self.HOUSE, self.TOLD, thing)

    def test_other_tuples_told(self):
        parts = [(), (0,), (1,), (0, 1)]
        for size in range(5):
            for told in itertools.permutations(parts, size):
                self.assertIs(shows_choices(self.HOUSE, told, self.PAPERS), told == ((0,), (1,)), told)
        for told in (((0,), (1,), (1,)), ((0,), (2,)), ((0,), (-1,)), ((0,), (True,)), ((False,), (1,)), ((0,), (1.0,)),
                     ((0,), 1), ((0,), [1]), (0, 1), ((0,), (1, 1)), ((0,), None), (((0,),), (1,))):
            self.assertIs(shows_choices(self.HOUSE, told, self.PAPERS), False, told)

    def test_told_with_odd_parts(self):
        for place in places_in(self.TOLD):
            for at, part in enumerate(ODD_PARTS):
                self.assertIs(shows_choices(self.HOUSE, put(self.TOLD, place, part), self.PAPERS), False, (place, at))
            part = found(self.TOLD, place)
            if isinstance(part, tuple):
                self.assertIs(shows_choices(self.HOUSE, put(self.TOLD, place, list(part)), self.PAPERS), False)

    def test_a_set_that_has_a_lesser_part_is_no_choice(self):
        house = house_of(*NEED_EACH_OTHER, n=3, deeds=DEEDS)
        papers = choice_papers(house)
        self.assertEqual([paper[0] for given, paper in papers], ["order", "none", "none", "order"])
        self.assertIs(shows_choices(house, ((),), papers), True)
        self.assertIs(shows_choices(house, ((), (0, 1)), papers), False)
        self.assertIs(shows_choices(house, ((0, 1),), papers), False)

    def test_pairs_in_another_order(self):
        for papers in itertools.permutations(self.PAPERS):
            self.assertIs(self.look(papers), papers == self.PAPERS)

    def test_one_missing_or_too_many(self):
        for at in range(4):
            self.assertIs(self.look(self.PAPERS[:at] + self.PAPERS[at + 1:]), False)
            self.assertIs(self.look(self.PAPERS[:at] + self.PAPERS[at:at + 1] + self.PAPERS[at:]), False)
            self.assertIs(self.look(self.PAPERS + self.PAPERS[at:at + 1]), False)
        self.assertIs(self.look(()), False)
        self.assertIs(self.look(self.PAPERS + (((2,), self.PAPERS[1][1]),)), False)

    def test_other_givens(self):
        for at, (given, paper) in enumerate(self.PAPERS):
            for other in ((), (0,), (1,), (0, 1), (1, 0), (0, 0), (True,), (False,), (0, True), [0], None, 0, "", {0}):
                pair = (other, paper)
                if not (type(other) is tuple and repr(other) == repr(given)):
                    self.assertIs(self.look(put(self.PAPERS, (at,), pair)), False, (at, other))

    def test_papers_of_other_parts_or_words(self):
        for one, other in itertools.permutations(range(4), 2):
            papers = put(self.PAPERS, (one, 1), self.PAPERS[other][1])
            self.assertIs(self.look(papers), False, (one, other))
        for at, (given, paper) in enumerate(self.PAPERS):
            for pair in ((paper, given), (given,), (given, paper, ()), (given, paper[1:]), (given, (paper,)), paper,
                         [given, paper], (given, list(paper)), (given, None), None, given):
                self.assertIs(self.look(put(self.PAPERS, (at,), pair)), False)

    def test_papers_of_other_orders_are_taken(self):
        house = ordered_house(3, (2, 0))
        papers = choice_papers(house)
        for p in itertools.permutations(range(3)):
            pair = ((), ("order", p, quiet_paper(with_order(house, p))))
            is_quiet = p.index(2) < p.index(0)
            self.assertIs(shows_choices(house, ((),), (pair, *papers[1:])), is_quiet, p)
        scenes = papers[0][1][2][1]
        pair = ((), ("order", papers[0][1][1], ("quiet", scenes[::-1])))
        self.assertIs(shows_choices(house, ((),), (pair, *papers[1:])), True)
        pair = ((), ("order", papers[0][1][1], ("quiet", scenes[1:])))
        self.assertIs(shows_choices(house, ((),), (pair, *papers[1:])), False)

    def test_in_every_part(self):
        self.check_odd_parts(self.look, self.PAPERS)
        self.check_kinds(self.look, self.PAPERS)
        house = house_of(BROKEN_BY_TURN, n=2, deeds="turn")
        self.check_odd_parts(lambda thing: shows_choices(house, ((0,),), thing), choice_papers(house))
        self.check_kinds(lambda thing: shows_choices(house, ((0,),), thing), choice_papers(house))

    def test_things_in_it(self):
        for thing in CHOICE_THINGS:
            for at in range(4):
                self.assertIs(self.look(put(self.PAPERS, (at,), thing)), False)
                self.assertIs(self.look(put(self.PAPERS, (at, 1), thing)), False)
            self.assertIs(self.look((thing,) * 4), False)
            self.assertIs(self.look(put(self.PAPERS, (1, 0), (thing,))), False)


if __name__ == "__main__":
    unittest.main()
