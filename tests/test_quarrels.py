"""Points 23 and 24: houses of some wishes alone, pairs, least rows, and whose tale breaks by which deed."""

import itertools
import unittest

from callwishes.books import quiet_paper
from callwishes.errors import TooMany
from callwishes.quarrels import alone, least_row, pairs, whose, with_order
from callwishes.runs import broken, ran
from callwishes.wishes import is_house
from helper import (
    ALWAYS, ENGAGED, KEPTOUT, MANY_BY_ORDER, NEED_EACH_OTHER, SMALL_HOUSES, has_told_kinds, house_of, ordered_house,
    row_in,
)

# Four minds of eight states each.
MANY_MINDS = [(letter, *[f"{state} drop * - pass {(state + 1) % 8}" for state in range(8)]) for letter in "abcd"]
MANY_MINDS_DEEDS = "drop:a drop:b drop:c drop:d turn"
BROKEN_BY_TURN = ("a", "tale 0 turn - - !")


class WithOrder(unittest.TestCase):
    def test_the_wishes_told_alone_in_the_order_told(self):
        house = ordered_house(4, (1, 0), (2, 3))
        n, wishes, deeds = house
        for size in range(5):
            for p in itertools.permutations(range(4), size):
                told = with_order(house, p)
                self.assertEqual(told, (n, tuple(wishes[number] for number in p), deeds))
                self.assertTrue(is_house(told))
        self.assertEqual(with_order(house, (0, 1, 2, 3)), house)
        self.assertEqual(with_order(house, ()), (n, (), deeds))
        self.assertEqual(with_order(house_of(n=2, deeds="all"), ()), house_of(n=2, deeds="all"))


class Alone(unittest.TestCase):
    def test_wishes_that_break_by_themselves(self):
        never = ("a", "tale 0 rings a,b - !")
        late = ("b", "tale 0 talks a,b - 1", "tale 1 ends a,b - !")
        deeds = "dial:a:b dial:c:b take:b drop:a"
        self.assertEqual(alone(house_of(ALWAYS, never, KEPTOUT, late, n=3, deeds=deeds)), (1, 3))
        self.assertEqual(alone(house_of(never, n=3, deeds=deeds)), (0,))
        self.assertEqual(alone(house_of(never, late, never, n=3, deeds=deeds)), (0, 1, 2))
        self.assertEqual(alone(house_of(never, late, n=3, deeds="turn")), ())

    def test_wishes_that_only_quarrel_keep_their_tales_alone(self):
        self.assertEqual(alone(SMALL_HOUSES["broken by order"]), ())
        self.assertEqual(alone(ordered_house(4, (0, 1), (1, 0), (2, 3))), ())

    def test_a_wish_that_another_one_helps_breaks_alone(self):
        house = house_of(*NEED_EACH_OTHER, n=3, deeds="dial:a:b dial:c:b")
        self.assertEqual(quiet_paper(house)[0], "quiet")
        self.assertEqual(alone(house), (0, 1))

    def test_of_no_wishes_or_no_deeds(self):
        self.assertEqual(alone(house_of(n=2, deeds="all")), ())
        self.assertEqual(alone(house_of(BROKEN_BY_TURN, n=2)), ())

    def test_too_many(self):
        self.assertEqual(alone(MANY_BY_ORDER), ())
        counting = MANY_BY_ORDER[1][1]
        bigger = (counting[0], counting[1], tuple((state, "turn", (), (), (state + 1) % 3) for state in range(3)))
        for wishes in ((bigger,), (MANY_BY_ORDER[1][0], bigger), (bigger, MANY_BY_ORDER[1][0])):
            with self.assertRaises(TooMany):
                alone((3, wishes, MANY_BY_ORDER[2]))
        # A wish that breaks ahead of it doesn't keep it away.
        with self.assertRaises(TooMany):
            alone((3, ((0, (), ((0, "turn", (), (), None),)), bigger), MANY_BY_ORDER[2]))


class Pairs(unittest.TestCase):
    def test_each_of_the_four_kinds(self):
        for befores, told in (((), "both"), (((0, 1),), "first"), (((1, 0),), "second"), (((0, 1), (1, 0)), "none")):
            self.assertEqual(pairs(ordered_house(2, *befores)), ((0, 1, told),))

    def test_of_wishes_with_all_deeds(self):
        for wishes, told in (((ALWAYS, KEPTOUT), "first"), ((KEPTOUT, ALWAYS), "second"), ((ALWAYS, ALWAYS), "both"),
                             ((ALWAYS, ENGAGED), "both"), ((ALWAYS, ("b", "0 in * - send:a 0", *ALWAYS[2:])), "first")):
            house = house_of(*wishes, n=3, deeds="all")
            self.assertEqual(pairs(house), ((0, 1, told),), wishes)
            quiet = [quiet_paper(with_order(house, p))[0] == "quiet" for p in ((0, 1), (1, 0))]
            self.assertEqual(quiet, [told in ("both", "first"), told in ("both", "second")])

    def test_all_twos_in_order(self):
        self.assertEqual(pairs(ordered_house(4, (0, 1), (3, 1), (1, 3))), (
            (0, 1, "first"), (0, 2, "both"), (0, 3, "both"), (1, 2, "both"), (1, 3, "none"), (2, 3, "both")))
        self.assertEqual(pairs(ordered_house(3, (2, 0), (2, 1))), (
            (0, 1, "both"), (0, 2, "second"), (1, 2, "second")))

    def test_other_wishes_are_left_out(self):
        house = house_of(*NEED_EACH_OTHER, BROKEN_BY_TURN, n=3, deeds="dial:a:b dial:c:b turn")
        self.assertEqual(pairs(house), ((0, 1, "both"), (0, 2, "none"), (1, 2, "none")))

    def test_of_fewer_than_two_wishes(self):
        self.assertEqual(pairs(house_of(n=2, deeds="all")), ())
        self.assertEqual(pairs(house_of(BROKEN_BY_TURN, n=2, deeds="all")), ())

    def test_too_many(self):
        for p in ((0, 1), (1, 0)):
            house = with_order(MANY_BY_ORDER, p)
            with self.assertRaises(TooMany):
                pairs(house)
            with self.assertRaises(TooMany):
                pairs((3, (house[1][0], (0, (), ((0, "turn", (), (), None),)), house[1][1]), house[2]))


class LeastRow(unittest.TestCase):
    def test_the_row_of_the_house_without_other_tales(self):
        for name, house in SMALL_HOUSES.items():
            for k in range(len(house[1])):
                rows = [row for size in range(4) for row in itertools.product(house[2], repeat=size)
                        if k in broken(ran(house, row)[0])]
                self.assertEqual(least_row(house, k), rows[0] if rows else None, (name, k))

    def test_others_that_break_sooner_dont_count(self):
        house = house_of(BROKEN_BY_TURN, ("b", "tale 0 talks a,b night !"), ("b", "tale 0 night - - !"), ALWAYS, n=3,
                         deeds="dial:a:b dial:a:c take:b take:c turn")
        self.assertEqual(least_row(house, 0), row_in("turn"))
        self.assertEqual(least_row(house, 1), None)
        self.assertEqual(least_row(house, 2), row_in("turn"))
        self.assertEqual(least_row(with_order(house, (0, 1, 2)), 1), row_in("dial:a:b turn take:b"))
        self.assertEqual(least_row(house, 3), None)

    def test_others_keep_their_rules(self):
        self.assertEqual(least_row(SMALL_HOUSES["broken by order"], 1), row_in("dial:a:b"))
        self.assertEqual(least_row(SMALL_HOUSES["broken by order"], 0), None)
        house = house_of(*NEED_EACH_OTHER, n=3, deeds="dial:a:b dial:c:b")
        self.assertEqual([least_row(house, k) for k in (0, 1)], [None, None])

    def test_of_a_house_without_deeds(self):
        self.assertEqual(least_row(house_of(BROKEN_BY_TURN, n=2), 0), None)

    def test_too_many(self):
        house = house_of(BROKEN_BY_TURN, *MANY_MINDS, deeds=MANY_MINDS_DEEDS)
        self.assertEqual(least_row(house, 0), row_in("turn"))
        self.assertEqual(quiet_paper(house)[1], row_in("turn"))
        for k in (1, 4):
            with self.assertRaises(TooMany):
                least_row(house, k)


class Whose(unittest.TestCase):
    HOUSE = house_of(("a", "tale 0 rings a,b - !"), ("b", "tale 0 turn - - 1", "tale 1 turn - - !"), ("c",),
                     ("c", "tale 0 talks a,b - !"), ("b", "tale 0 rings *,b - !"), n=3, deeds="all")

    def test_the_wishes_that_break_by_each_deed(self):
        for row, told in (("", ()), ("turn", ((),)), ("turn turn", ((), (1,))), ("dial:a:b", ((0, 4),)),
                          ("dial:a:b take:b", ((0, 4), (3,))), ("dial:c:b drop:c dial:a:b", ((4,), (), (0,))),
                          ("turn dial:a:b turn take:b drop:b dial:a:b turn turn",
                           ((), (0, 4), (1,), (3,), (), (), (), ()))):
            self.assertEqual(whose(self.HOUSE, row_in(row)), told, row)

    def test_each_wish_breaks_once(self):
        row = row_in("dial:a:b dial:c:b take:b drop:b turn turn dial:a:b take:b turn")
        told = whose(self.HOUSE, row)
        self.assertEqual(len(told), len(row))
        for size in range(len(row) + 1):
            by_then = sorted(itertools.chain(*told[:size]))
            self.assertEqual(tuple(by_then), broken(ran(self.HOUSE, row[:size])[0]))

    def test_of_quarrels_rows(self):
        for name, house in SMALL_HOUSES.items():
            paper = quiet_paper(house)
            if paper[0] == "quarrel":
                told = whose(house, paper[1])
                self.assertEqual(set(told[:-1]) - {()}, set(), name)
                self.assertEqual(told[-1][0], paper[2], name)


class WhatIsTold(unittest.TestCase):
    def test_kinds_and_that_nothing_is_changed(self):
        row = row_in("dial:a:b turn take:b turn")
        for house in (*SMALL_HOUSES.values(), ordered_house(4, (0, 1), (1, 0), (3, 2))):
            before = repr(house)
            askings = [(alone, (house,)), (pairs, (house,)), (whose, (house, row)), (whose, (house, ()))]
            askings += [(with_order, (house, (k,))) for k in range(len(house[1]))]
            askings += [(least_row, (house, k)) for k in range(len(house[1]))]
            for asking, handed in askings:
                told = asking(*handed)
                self.assertTrue(has_told_kinds(told), told)
                self.assertEqual(asking(*handed), told)
            self.assertEqual(repr(house), before)


if __name__ == "__main__":
    unittest.main()
