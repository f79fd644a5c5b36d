"""Point 28's looks, and 2's "of anything": which papers show houses alike, or a row by which they part."""

import itertools
import unittest

from callwishes.alike import alike_paper, without
from callwishes.alikelooks import shows_alike
from callwishes.runs import ran
from helper import (
    ALWAYS, BACK, ENGAGED, HOLD, KEPTOUT, SECOND, SMALL_HOUSES, THREE, WHOLE_THINGS, LookCase, found, house_of,
    places_in, put, row_in, scene_of,
)

ALIKE_THINGS = [*WHOLE_THINGS, "alike", "unlike", ("alike",), ("unlike",), ["alike", ()], ["unlike", ()], {"alike": ()},
                ("alike", ()), ("unlike", ()), ("alike", (), ()), ("unlike", (), ()), ("alike", ((), ())),
                ("alike", None), ("unlike", None), ("alike", "alike"), ("unlike", "turn"), ("unlike", "")]


class ToldPapers(unittest.TestCase):
    def test_what_is_told_is_taken(self):
        for name, house in SMALL_HOUSES.items():
            others = [house, (house[0], house[1][::-1], house[2]), (house[0], (), house[2])]
            others += [without(house, k) for k in range(len(house[1]))]
            for other in others:
                self.assertIs(shows_alike(house, other, alike_paper(house, other)), True, name)
                self.assertIs(shows_alike(other, house, alike_paper(other, house)), True, name)

    def test_of_houses_with_all_deeds(self):
        wishes = [(), (SECOND,), (SECOND, ("a",)), (HOLD, BACK), (BACK, HOLD), (THREE,), (ENGAGED, ALWAYS), (ALWAYS,)]
        houses = [house_of(*each, n=3, deeds="all") for each in wishes]
        told = []
        for one, other in itertools.product(houses, repeat=2):
            paper = alike_paper(one, other)
            told.append(paper[0])
            self.assertIs(shows_alike(one, other, paper), True)
        self.assertEqual(told.count("alike"), 8 + 3 * 2)

    def test_a_paper_of_other_houses(self):
        none, kept_out = house_of(n=3, deeds="dial:a:b turn"), house_of(KEPTOUT, n=3, deeds="dial:a:b turn")
        always, idle = house_of(ALWAYS, n=3, deeds="dial:a:b turn"), house_of(("a",), n=3, deeds="dial:a:b turn")
        self.assertIs(shows_alike(none, kept_out, alike_paper(none, none)), False)
        self.assertIs(shows_alike(none, kept_out, alike_paper(none, idle)), False)
        self.assertIs(shows_alike(always, kept_out, alike_paper(kept_out, kept_out)), False)
        self.assertIs(shows_alike(always, always, alike_paper(kept_out, kept_out)), False)
        self.assertIs(shows_alike(none, idle, alike_paper(idle, none)), False)
        self.assertIs(shows_alike(none, idle, alike_paper(none, idle)), True)
        self.assertIs(shows_alike(none, none, alike_paper(none, kept_out)), False)
        self.assertIs(shows_alike(none, idle, alike_paper(none, kept_out)), False)
        self.assertIs(shows_alike(none, always, alike_paper(none, kept_out)), True)

    def test_nothing_handed_in_is_changed(self):
        for house in SMALL_HOUSES.values():
            other = (house[0], (), house[2])
            paper = alike_paper(house, other)
            before = repr((house, other, paper))
            self.assertEqual([shows_alike(house, other, paper) for _ in range(2)], [True, True])
            self.assertEqual(repr((house, other, paper)), before)

    def test_of_anything(self):
        none = SMALL_HOUSES["no wishes, no deeds"]
        one, other = SMALL_HOUSES["kept by order"], SMALL_HOUSES["broken by order"]
        for houses in ((none, none), (one, other), (one, one)):
            for at, thing in enumerate(ALIKE_THINGS):
                self.assertIs(shows_alike(*houses, thing), False, at)


class AlikePapers(LookCase):
    ONE = house_of(("b", "0 in * - pass 1", "1 in * - shut 0"), n=2, deeds="dial:a:b drop:a")
    OTHER = house_of(("b", "0 in * - pass 4", "4 in * - shut 0"), ("a",), n=2, deeds="dial:a:b drop:a")
    PAPER = alike_paper(ONE, OTHER)

    def look(self, thing):
        return shows_alike(self.ONE, self.OTHER, thing)

    def test_the_paper(self):
        ring, shut = ((0, 1, "ring", 0),), ((0, 1, "shut", 0),)
        self.assertEqual(self.PAPER, ("alike", (
            (((), 0, (0,)), ((), 0, (0, 0))), ((ring, 0, (1,)), (ring, 0, (4, 0))), (((), 0, (1,)), ((), 0, (4, 0))),
            ((shut, 0, (0,)), (shut, 0, (0, 0))))))
        self.assertIs(self.look(self.PAPER), True)

    def test_pairs_in_other_orders(self):
        for pairs in itertools.permutations(self.PAPER[1]):
            self.assertIs(self.look(("alike", pairs)), True)

    def test_a_pair_missing(self):
        pairs = self.PAPER[1]
        for size in range(len(pairs)):
            for fewer in itertools.combinations(pairs, size):
                self.assertIs(self.look(("alike", fewer)), False)

    def test_the_begun_pair_missing_from_closed_pairs(self):
        house = house_of(n=2, deeds="turn")
        talk = ((0, 1, "talk", 0),)
        talking = tuple(((talk, night, ()), (talk, night, ())) for night in (0, 1))
        self.assertIs(shows_alike(house, house, ("alike", talking)), False)
        self.assertIs(shows_alike(house, house, ("alike", talking + alike_paper(house, house)[1])), True)

    def test_a_pair_doubled(self):
        pairs = self.PAPER[1]
        for pair in pairs:
            self.assertIs(self.look(("alike", (*pairs, pair))), False)
            self.assertIs(self.look(("alike", (pair, *pairs))), False)

    def test_more_pairs(self):
        house = house_of(n=2, deeds="turn")
        pairs = alike_paper(house, house)[1]
        held = [(((1, 0, "hold0", 1),), night, ()) for night in (0, 1)]
        more = ((held[0], held[0]), (held[1], held[1]))
        self.assertIs(shows_alike(house, house, ("alike", more[:1] + pairs + more[1:])), True)
        self.assertIs(shows_alike(house, house, ("alike", pairs + more[:1])), False)
        self.assertIs(shows_alike(house, house, ("alike", pairs + more[1:])), False)
        # The scenes of a pair may be unlike each other.
        more = ((held[0], ((), 0, ())), (held[1], ((), 1, ())))
        self.assertIs(shows_alike(house, house, ("alike", pairs + more)), True)
        # Where night is told in one of them and day in the other, events differ.
        more = ((held[0], held[1]), (held[1], held[0]))
        self.assertIs(shows_alike(house, house, ("alike", pairs + more)), False)

    def test_more_than_2000_pairs(self):
        house = house_of(("a",), ("a",), n=2)
        bare = [((), 0, minds) for minds in itertools.product(range(8), repeat=2)]
        pairs = tuple(itertools.product(bare, repeat=2))
        self.assertEqual(len(pairs), 4096)
        self.assertIs(shows_alike(house, house, ("alike", pairs)), True)

    def test_each_deeds_events_are_looked_at(self):
        deeds = "dial:a:b drop:a turn"
        none = house_of(n=2, deeds=deeds)
        for act in ("shut", "pass"):
            other = house_of(("b", f"0 in * night {act} 0"), n=2, deeds=deeds)
            pairs = tuple(((scene[0], scene[1], ()), (scene[0], scene[1], (0,))) for scene in (
                scene_of(none, calls, night) for calls in ("", "ab:ring") for night in (0, 1)))
            self.assertIs(shows_alike(none, other, ("alike", pairs)), act == "pass")

    def test_the_same_events_and_a_pair_that_isnt_there(self):
        # Neither the ring back that is taken nor the mind that changes makes an event differ at once.
        one = house_of(("b", "0 in * - pass 1"), n=2, deeds="dial:a:b")
        other = house_of(("b",), n=2, deeds="dial:a:b")
        ring = ((0, 1, "ring", 0),)
        begun_pair = (((), 0, (0,)), ((), 0, (0,)))
        self.assertIs(shows_alike(one, other, ("alike", (begun_pair, ((ring, 0, (1,)), (ring, 0, (0,)))))), True)
        self.assertIs(shows_alike(one, other, ("alike", (begun_pair, ((ring, 0, (0,)), (ring, 0, (0,)))))), False)

    def test_scenes_with_tales(self):
        with_tales = tuple((one + ((0,),), other + ((0, 0),)) for one, other in self.PAPER[1])
        self.assertIs(self.look(("alike", with_tales)), False)
        for at in range(4):
            for half in (0, 1):
                scene = self.PAPER[1][at][half]
                for tales in ((0,) * len(scene[2]), (None,) * len(scene[2]), ()):
                    self.assertIs(self.look(put(self.PAPER, (1, at, half), scene + (tales,))), False)

    def test_scenes_of_another_house(self):
        pairs = self.PAPER[1]
        for pair in ((((), 0, ()), ((), 0, (0, 0))), (((), 0, (0,)), ((), 0, (0,))), (((), 0, (0, 0)), ((), 0, (0,))),
                     (((), 0, (0, 0)), ((), 0, (0, 0))), ((((0, 2, "ring", 0),), 0, (0,)), ((), 0, (0, 0))),
                     (((), 0, (0,)), (((2, 1, "ring", 0),), 0, (0, 0)))):
            self.assertIs(self.look(("alike", (*pairs, pair))), False)
        self.assertIs(self.look(("alike", tuple((other, one) for one, other in pairs))), False)

    def test_pairs_that_are_none(self):
        pairs = self.PAPER[1]
        one, other = pairs[1]
        for pair in ((one,), (other,), (one, other, one), (one, other, ()), one, other, (), [one, other], (one, one),
                     (other, other), {0: one, 1: other}, (list(one), other), (one, list(other)), (one, None), None):
            self.assertIs(self.look(put(self.PAPER, (1, 1), pair)), False)
            self.assertIs(self.look(("alike", (*pairs, pair))), False)

    def test_another_number_or_word_in_any_place(self):
        for place in places_in(self.PAPER):
            part = found(self.PAPER, place)
            for other in (*range(9), -1, None, "ring", "talk", "busy", "hold1", "alike", "unlike", "quiet"):
                if not isinstance(part, tuple) and part != other:
                    self.assertIs(self.look(put(self.PAPER, place, other)), False, (place, other))

    def test_the_other_papers_word_or_parts(self):
        pairs = self.PAPER[1]
        for thing in (("unlike", pairs), ("alike", pairs, ()), ("alike", (pairs,)), ("alike", *pairs), (pairs,), pairs,
                      (pairs, "alike"), ("quiet", pairs), ("alike", row_in("dial:a:b")), ("alike", {pairs[0]: pairs}),
                      ("alike", set(pairs)), ("alike", list(pairs)), ("alike", iter(pairs)), ["alike", pairs]):
            self.assertIs(self.look(thing), False)

    def test_of_anything(self):
        self.check_odd_parts(self.look, self.PAPER)
        self.check_kinds(self.look, self.PAPER)
        for thing in ALIKE_THINGS:
            self.assertIs(self.look(("alike", thing)), False)
            self.assertIs(self.look(("alike", (thing,))), False)
            self.assertIs(self.look(("alike", (*self.PAPER[1], thing))), False)


class UnlikePapers(LookCase):
    DEEDS = "dial:a:b dial:c:b take:b drop:a turn"
    ONE = house_of(n=3, deeds=DEEDS)
    OTHER = house_of(ENGAGED, ("b", "0 in * night shut 0"), n=3, deeds=DEEDS)
    PAPER = alike_paper(ONE, OTHER)

    def look(self, thing):
        return shows_alike(self.ONE, self.OTHER, thing)

    def test_the_paper(self):
        self.assertEqual(self.PAPER, ("unlike", row_in("dial:a:b dial:c:b")))
        self.assertIs(self.look(self.PAPER), True)

    def test_any_row_whose_last_deeds_events_differ(self):
        taken = 0
        for size in range(5):
            for row in itertools.product(self.ONE[2], repeat=size):
                is_so = size > 0 and ran(self.ONE, row)[1][-1] != ran(self.OTHER, row)[1][-1]
                taken += is_so
                self.assertIs(self.look(("unlike", row)), is_so, row)
        self.assertGreater(taken, 50)

    def test_longer_rows_and_other_shortest_ones(self):
        for row, is_taken in (("dial:a:b dial:c:b", True), ("turn dial:a:b", True), ("turn turn dial:a:b dial:c:b", True),
                              ("turn dial:c:b", True), ("dial:c:b dial:a:b", True),
                              ("turn turn " * 40 + "turn dial:a:b", True), ("turn turn " * 40 + "dial:a:b", False),
                              ("dial:a:b dial:c:b turn", False), ("turn dial:a:b drop:a", True),
                              ("dial:a:b", False), ("turn", False), ("", False)):
            self.assertIs(self.look(("unlike", row_in(row))), is_taken, row)

    def test_events_that_differed_ahead_dont_count(self):
        row = row_in("dial:a:b dial:c:b turn")
        one, other = ran(self.ONE, row)[1], ran(self.OTHER, row)[1]
        self.assertNotEqual(one[1], other[1])
        self.assertEqual(one[2], other[2])
        self.assertIs(self.look(("unlike", row)), False)

    def test_houses_that_are_alike_have_no_row(self):
        house = SMALL_HOUSES["quiet with minds"]
        for size in range(4):
            for row in itertools.product(house[2], repeat=size):
                self.assertIs(shows_alike(house, house, ("unlike", row)), False)

    def test_scenes_that_differ_dont_count_where_events_dont(self):
        one = house_of(("b", "0 in * - pass 1"), n=2, deeds="dial:a:b")
        other = house_of(("b", "0 in * - pass 2", "tale 0 rings a,b - !"), n=2, deeds="dial:a:b")
        self.assertIs(shows_alike(one, other, ("unlike", row_in("dial:a:b"))), False)

    def test_deeds_that_the_houses_havent(self):
        one, other = house_of(n=3, deeds="dial:a:b turn"), house_of(KEPTOUT, n=3, deeds="dial:a:b turn")
        self.assertIs(shows_alike(one, other, ("unlike", row_in("dial:a:b"))), True)
        self.assertIs(shows_alike(one, other, ("unlike", row_in("turn dial:a:b"))), True)
        for row in (row_in("dial:c:b"), row_in("wait dial:a:b"), row_in("take:b dial:a:b"), (("dial", 3, 1),),
                    (("dial", 1),), (("dial", 0, 1, 0),), (("ring", 0, 1),), (("dial", False, True),), ("dial",),
                    (["dial", 0, 1],), [("dial", 0, 1)], (None,), (("dial", 0.0, 1),), (("dial", 0, 1), None),
                    (None, ("dial", 0, 1)), "dial:a:b", ("dial:a:b",), {("dial", 0, 1): 0}, (((("dial", 0, 1),),),),
                    ((("dial", 0, 1),),), (True, ("dial", 0, 1)), (("turn", 0), ("dial", 0, 1)), ("dial", 0, 1)):
            self.assertIs(shows_alike(one, other, ("unlike", row)), False, row)

    def test_of_anything(self):
        self.check_odd_parts(self.look, self.PAPER)
        self.check_kinds(self.look, self.PAPER)
        row = self.PAPER[1]
        for thing in ALIKE_THINGS:
            self.assertIs(self.look(("unlike", thing)), False)
            self.assertIs(self.look(("unlike", (thing,))), False)
            self.assertIs(self.look(("unlike", (*row, thing))), False)
            self.assertIs(self.look(("unlike", (thing, *row))), False)
            self.assertIs(self.look(("unlike", row, thing)), False)
        for thing in (("alike", row), ("quarrel", row), ("unlike", *row), (row, "unlike"), row, (row,), ("Unlike", row)):
            self.assertIs(self.look(thing), False)


if __name__ == "__main__":
    unittest.main()
