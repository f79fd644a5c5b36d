"""Point 26: least sets of wishes to give up, and their papers."""

import itertools
import unittest

from callwishes.books import quiet_paper
from callwishes.choices import choice_papers, choices
from callwishes.errors import TooMany
from callwishes.orders import order_paper
from callwishes.quarrels import with_order
from helper import (
    ALWAYS, KEPTOUT, MANY_BY_ORDER, NEED_EACH_OTHER, SMALL_HOUSES, has_told_kinds, house_of, ordered_house,
)

BROKEN_BY_TURN = ("a", "tale 0 turn - - !")
PARTS_OF_THREE = ((), (0,), (1,), (2,), (0, 1), (0, 2), (1, 2), (0, 1, 2))
DEEDS = "dial:a:b dial:c:b turn"


def rest_of(house, given):
    return tuple(number for number in range(len(house[1])) if number not in given)


def parts_by_size(many):
    return [part for size in range(many + 1) for part in itertools.combinations(range(many), size)]


def choices_by_orders(house):
    """The choices, from the quiet papers of all orders of all parts."""
    parts = parts_by_size(len(house[1]))
    leave_quiet = [given for given in parts
                   if any(quiet_paper(with_order(house, p))[0] == "quiet"
                          for p in itertools.permutations(rest_of(house, given)))]
    return [given for given in leave_quiet if not any(set(part) < set(given) for part in leave_quiet)]


class Choices(unittest.TestCase):
    def check(self, house, told):
        self.assertEqual(choices(house), told)
        self.assertEqual(choices_by_orders(house), told)
        self.assertIs(type(choices(house)), list)

    def test_of_no_wishes(self):
        self.check(house_of(n=2, deeds="all"), [()])
        self.check(house_of(n=2), [()])

    def test_of_one_wish(self):
        self.check(house_of(ALWAYS, n=3, deeds="all"), [()])
        self.check(house_of(BROKEN_BY_TURN, n=2, deeds="all"), [(0,)])
        self.check(house_of(BROKEN_BY_TURN, n=2), [()])

    def test_of_two_wishes(self):
        self.check(ordered_house(2), [()])
        self.check(ordered_house(2, (1, 0)), [()])
        self.check(ordered_house(2, (0, 1), (1, 0)), [(0,), (1,)])
        self.check(house_of(KEPTOUT, ALWAYS, n=3, deeds="all"), [()])
        self.check(house_of(ALWAYS, BROKEN_BY_TURN, n=3, deeds=DEEDS), [(1,)])
        self.check(house_of(BROKEN_BY_TURN, BROKEN_BY_TURN, n=2, deeds="turn"), [(0, 1)])

    def test_of_three_wishes(self):
        self.check(ordered_house(3, (2, 1), (1, 0)), [()])
        self.check(ordered_house(3, (0, 1), (1, 2), (2, 0)), [(0,), (1,), (2,)])
        self.check(ordered_house(3, (0, 2), (2, 0)), [(0,), (2,)])
        self.check(ordered_house(3, (0, 2), (2, 0), (1, 2)), [(0,), (2,)])
        self.check(house_of(BROKEN_BY_TURN, ALWAYS, BROKEN_BY_TURN, n=3, deeds=DEEDS), [(0, 2)])
        self.check(house_of(*[BROKEN_BY_TURN] * 3, n=3, deeds=DEEDS), [(0, 1, 2)])

    def test_sets_of_unlike_sizes(self):
        # The middle one breaks by a call of a that isn't shut, the others by one that is.
        wants_shut = ("b", "0 in a - shut 0", "tale 0 rings a,b - !")
        wants_none = ("a", "tale 0 shut a,b - !")
        self.check(house_of(wants_none, wants_shut, wants_none, n=3, deeds=DEEDS), [(1,), (0, 2)])
        self.check(house_of(wants_shut, wants_none, wants_shut, n=3, deeds=DEEDS), [(1,), (0, 2)])
        self.check(house_of(wants_shut, wants_none, n=3, deeds=DEEDS), [(0,), (1,)])

    def test_one_breaks_alone_and_two_quarrel(self):
        n, wishes, deeds = ordered_house(2, (0, 1), (1, 0), n=3)
        broken_wish = (0, (), ((0, "comes", (None, None), (), None),))
        self.check((n, (*wishes, broken_wish), deeds), [(0, 2), (1, 2)])
        self.check((n, (broken_wish, *wishes), deeds), [(0, 1), (0, 2)])

    def test_a_set_with_a_lesser_part_is_left_out(self):
        # Without either of the two the other breaks; without both all is quiet, as it is with both.
        house = house_of(*NEED_EACH_OTHER, n=3, deeds=DEEDS)
        for given, is_quiet in (((), True), ((0,), False), ((1,), False), ((0, 1), True)):
            self.assertEqual(order_paper(with_order(house, rest_of(house, given)))[0] == "order", is_quiet)
        self.check(house, [()])
        self.check(house_of(*NEED_EACH_OTHER, BROKEN_BY_TURN, n=3, deeds=DEEDS), [(2,)])
        self.check(house_of(BROKEN_BY_TURN, *NEED_EACH_OTHER, n=3, deeds=DEEDS), [(0,)])

    def test_one_that_needs_another_goes_with_it(self):
        # The second one's calls of c are shut by the first alone, which breaks by a turn and a call of a.
        helping = ("b", "0 in c - shut 0", "tale 0 turn - - 1", "tale 1 rings a,b - !")
        helped = ("b", "tale 0 comes c,b - 1", "tale 1 shut c,b - 0", "tale 1 done - - !")
        self.check(house_of(helping, helped, n=3, deeds=DEEDS), [(0, 1)])
        self.check(house_of(helping, helped, n=3, deeds="dial:c:b turn"), [()])

    def test_of_small_houses(self):
        for name, house in SMALL_HOUSES.items():
            self.assertEqual(choices(house), choices_by_orders(house), name)


class ChoicePapers(unittest.TestCase):
    def test_all_parts_by_size(self):
        for many, parts in ((0, ((),)), (1, ((), (0,))), (2, ((), (0,), (1,), (0, 1))), (3, PARTS_OF_THREE)):
            papers = choice_papers(ordered_house(many))
            self.assertIs(type(papers), tuple)
            self.assertEqual(tuple(given for given, paper in papers), parts)

    def test_order_papers_of_the_house_without_them(self):
        for house in (ordered_house(3, (2, 0)), ordered_house(3, (0, 1), (1, 2), (2, 0)), *SMALL_HOUSES.values(),
                      house_of(*NEED_EACH_OTHER, BROKEN_BY_TURN, n=3, deeds=DEEDS)):
            self.assertEqual(choice_papers(house), tuple(
                (given, order_paper(with_order(house, rest_of(house, given))))
                for given in parts_by_size(len(house[1]))))

    def test_the_others_keep_their_order(self):
        papers = dict(choice_papers(ordered_house(3, (2, 0))))
        self.assertEqual([papers[given][:2] for given in PARTS_OF_THREE], [
            ("order", (1, 2, 0)), ("order", (0, 1)), ("order", (1, 0)), ("order", (0, 1)), ("order", (0,)),
            ("order", (0,)), ("order", (0,)), ("order", ())])

    def test_none_among_them(self):
        papers = dict(choice_papers(ordered_house(2, (0, 1), (1, 0))))
        self.assertEqual([paper[0] for paper in papers.values()], ["none", "order", "order", "order"])
        self.assertEqual(len(papers[()][1]), 2)


class TooManyScenes(unittest.TestCase):
    def test_of_both_where_a_paper_is(self):
        house = with_order(MANY_BY_ORDER, (1, 0))
        for asking in (choices, choice_papers):
            with self.assertRaises(TooMany):
                asking(house)

    def test_where_an_order_behind_the_told_one_is_nothing_is_refused(self):
        self.assertEqual(choices(MANY_BY_ORDER), [()])
        self.assertEqual([given for given, paper in choice_papers(MANY_BY_ORDER)], [(), (0,), (1,), (0, 1)])

    def test_where_a_paper_is_that_no_choice_needs(self):
        # Without the first one, which shuts all calls, the second has too many scenes; nothing need be given up.
        n, (shutting, counting), deeds = MANY_BY_ORDER
        counting = (*counting[:2], tuple((state, "turn", (), (), (state + 1) % 3) for state in range(3)))
        house = (n, ((*shutting[:2], ()), counting), deeds)
        self.assertEqual(order_paper(house)[:2], ("order", (0, 1)))
        for asking in (choices, choice_papers):
            with self.assertRaises(TooMany):
                asking(house)


class WhatIsTold(unittest.TestCase):
    def test_kinds_and_that_nothing_is_changed(self):
        for house in (*SMALL_HOUSES.values(), ordered_house(3, (1, 0)), ordered_house(3, (0, 1), (1, 0))):
            before = repr(house)
            told, papers = choices(house), choice_papers(house)
            self.assertTrue(has_told_kinds(tuple(told)))
            self.assertTrue(has_told_kinds(papers))
            self.assertEqual(choices(house), told)
            self.assertEqual(choice_papers(house), papers)
            self.assertEqual(repr(house), before)

    def test_what_is_done_to_a_told_list_is_not_told_again(self):
        house = ordered_house(2, (0, 1), (1, 0))
        choices(house).clear()
        self.assertEqual(choices(house), [(0,), (1,)])


if __name__ == "__main__":
    unittest.main()
