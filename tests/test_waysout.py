"""Point 27: ways out of all calls, the longest of them, and lines with two talks."""

import itertools
import unittest

from callwishes.books import scenes_of
from callwishes.deeds import stepped
from callwishes.errors import TooMany
from callwishes.points import begun
from callwishes.rooms import calls_of, talks_of
from callwishes.runs import broken
from callwishes.waysout import longest_way, two_talks, way_out
from helper import (
    ALWAYS, BACK, ENGAGED, HOLD, KEPTOUT, MANY_BY_ORDER, PARK, SECOND, SMALL_HOUSES, THREE, has_told_kinds, house_of,
    row_in, scene_of,
)

# Line a is rung back for line b seven times by each of these, from the state 0 on.
SEVEN_BACKS = ("a", *[f"{state} free b - ring {state + 1}" for state in range(7)])
ENDLESS_BACKS = ("a", "0 free b - ring 0")


def way_by_rows(house, scene, line, most):
    """The first of all rows, by size, of the line's takes and drops that lead it out, or None."""
    for size in range(most + 1):
        for row in itertools.product((("take", line), ("drop", line)), repeat=size):
            behind = scene
            for deed in row:
                behind = stepped(house, behind, deed)[0]
            if not calls_of(behind[0], line):
                return row
    return None


class WayOut(unittest.TestCase):
    def check(self, house, calls, letter, row, **states):
        line = "abcd".index(letter)
        wanted = None if row is None else tuple((word, line) for word in row.split())
        self.assertEqual(way_out(house, scene_of(house, calls, **states), line), wanted)

    def test_of_a_line_that_is_in_no_call(self):
        house = house_of()
        for calls in ("", "ab:talk", "ac:busy", "ac:shut bc:back"):
            self.check(house, calls, "c", "")
            self.check(house, calls, "d", "")

    def test_of_a_line_in_one_call(self):
        house = house_of()
        for how in ("ring", "show", "talk", "hold0", "hold1", "busy", "shut"):
            self.check(house, "ab:" + how, "a", "drop")
        for how in ("talk", "hold0", "hold1"):
            self.check(house, "ba:" + how, "a", "drop")
        self.check(house, "ab:back", "a", "take drop")
        self.check(house, "ba:ring", "a", "take drop")

    def test_a_shown_call_rings_first(self):
        self.check(house_of(), "ba:show", "a", "take take drop")
        self.check(house_of(), "ba:show ca:talk", "a", "drop take drop")

    def test_of_a_line_in_several_calls(self):
        house = house_of()
        self.check(house, "ba:ring ca:ring", "a", "take drop take drop")
        self.check(house, "ba:ring ca:ring da:ring", "a", "take drop take drop take drop")
        self.check(house, "ab:talk ca:ring ad:busy", "a", "drop take drop")
        self.check(house, "ab:hold0 ac:busy ad:shut", "a", "drop")
        self.check(house, "ab:back ca:ring da:talk", "a", "drop take take drop")

    def test_wishes_are_asked(self):
        house = house_of(PARK, n=3)
        self.check(house, "ab:talk", "b", "drop drop")
        self.check(house, "ab:ring", "b", "take drop drop")
        self.check(house, "ab:talk", "a", "drop")

    def test_of_ways_of_one_size_the_first_counts(self):
        # The first drop of all keeps a talk where there is one; drop take drop would be as short.
        house = house_of(("a", "0 drop * - keep 1"), n=2)
        self.check(house, "ba:ring", "a", "take drop drop")
        self.check(house, "ba:ring", "a", "take drop", minds=(1,))
        self.assertEqual(calls_of(self.behind(house, "ba:ring", row_in("drop:a take:a drop:a")), 0), ())

    def behind(self, house, calls, row):
        scene = scene_of(house, calls)
        for deed in row:
            scene = stepped(house, scene, deed)[0]
        return scene[0]

    def test_the_house_neednt_have_these_deeds(self):
        for deeds in ("", "turn", "all"):
            self.check(house_of(n=2, deeds=deeds), "ba:ring", "a", "take drop")

    def test_a_broken_tale_doesnt_keep_a_line_in(self):
        house = house_of(("a", "tale 0 talks b,a - !"), n=2, deeds="all")
        self.check(house, "ba:ring", "a", "take drop")
        self.check(house, "ba:ring", "a", "take drop", tales=(None,))

    def test_at_most_20_deeds(self):
        house = house_of(SEVEN_BACKS, SEVEN_BACKS, n=2)
        for backs in range(15):
            minds = (7 - min(backs, 7), 14 - max(backs, 7))
            size = 2 + 2 * backs
            self.check(house, "ab:back", "a", " ".join(["take drop"] * (size // 2)) if size <= 20 else None, minds=minds)
            size = 1 + 2 * backs
            self.check(house, "ab:talk", "a", "drop" + " take drop" * (size // 2) if size <= 20 else None, minds=minds)

    def test_a_line_that_never_comes_out(self):
        house = house_of(ENDLESS_BACKS, n=2)
        self.check(house, "ab:talk", "a", None)
        self.check(house, "ab:back", "a", None)
        self.check(house, "ab:talk", "b", "drop")
        self.check(house, "ba:ring", "a", None)

    def test_scenes_that_no_row_leads_to(self):
        house = house_of(n=4, deeds="turn")
        self.check(house, "ab:talk ac:talk ad:talk", "a", "drop", night=1)
        self.check(house, "ba:talk ca:show da:show", "a", "drop take drop take drop")
        self.check(house, "ba:show ca:show", "a", "take take drop take drop")
        house = house_of(KEPTOUT, BACK, n=3)
        self.check(house, "cb:show", "b", "take take drop", minds=(7, 7), tales=(None, 3))

    def test_as_all_rows_have_it(self):
        for wish in (SECOND, HOLD, PARK, BACK, ALWAYS):
            house = house_of(wish, n=3, deeds="all")
            for scene in scenes_of(house)[::7]:
                for line in range(3):
                    self.assertEqual(way_out(house, scene, line), way_by_rows(house, scene, line, 5), scene)


class LongestWay(unittest.TestCase):
    def longest(self, house):
        """As the point says it, from all scenes and lines."""
        ways = [(scene, line, way_out(house, scene, line)) for scene in scenes_of(house) for line in range(house[0])]
        for scene, line, way in ways:
            if way is None:
                return (None, scene, line)
        many = max(len(way) for scene, line, way in ways)
        return [(many, scene, line) for scene, line, way in ways if len(way) == many][0]

    def test_without_deeds(self):
        for house in (house_of(n=2), house_of(n=4), house_of(ALWAYS, KEPTOUT, n=3)):
            self.assertEqual(longest_way(house), (0, begun(house), 0))

    def test_the_first_scene_and_line(self):
        house = house_of(n=4, deeds="dial:a:b dial:b:c dial:d:b")
        self.assertEqual(longest_way(house), (2, scene_of(house, "ab:ring"), 1))
        house = house_of(n=3, deeds="dial:b:a turn")
        self.assertEqual(longest_way(house), (2, scene_of(house, "ba:ring"), 0))
        house = house_of(("a", "0 in * - shut 0"), n=3, deeds="dial:b:a dial:c:a turn")
        self.assertEqual(longest_way(house), (1, scene_of(house, "ba:shut"), 1))
        house = house_of(n=3, deeds="turn")
        self.assertEqual(longest_way(house), (0, scene_of(house), 0))

    def test_a_longer_one_further_on(self):
        house = house_of(PARK, n=3, deeds="dial:a:b dial:a:c dial:b:a")
        self.assertEqual(longest_way(house), (3, scene_of(house, "ab:ring"), 1))
        house = house_of(SECOND, n=3, deeds="all")
        self.assertEqual(longest_way(house), (3, scene_of(house, "ab:talk cb:show"), 1))

    def test_as_all_scenes_and_lines_have_it(self):
        houses = [house_of(*wishes, n=3, deeds="all") for wishes in (
            (), (HOLD,), (BACK,), (PARK, SECOND), (KEPTOUT, ALWAYS), (ENGAGED, PARK), (ENDLESS_BACKS,))]
        for at, house in enumerate([*houses, *SMALL_HOUSES.values()]):
            self.assertEqual(longest_way(house), self.longest(house), at)

    def test_broken_scenes_count(self):
        house = house_of(("b", "tale 0 rings a,b - !"), n=2, deeds="dial:a:b")
        self.assertEqual(longest_way(house), (2, scene_of(house, "ab:ring", tales=(None,)), 1))

    def test_the_first_without_a_way(self):
        house = house_of(ENDLESS_BACKS, n=3, deeds="dial:a:b dial:a:c dial:b:c drop:a")
        self.assertEqual(longest_way(house), (None, scene_of(house, "ab:ring"), 0))
        house = house_of(("b", "0 free c - ring 0"), ENDLESS_BACKS, n=3, deeds="dial:a:c dial:b:c")
        self.assertEqual(longest_way(house), (None, scene_of(house, "bc:ring"), 1))
        house = house_of(SEVEN_BACKS, SEVEN_BACKS, n=2, deeds="dial:b:a")
        self.assertEqual(longest_way(house), (None, scene_of(house, "ba:ring"), 0))

    def test_a_way_of_just_20(self):
        nine = [("a", *[f"{state} free b - ring {state + 1}" for state in range(many)]) for many in (7, 2)]
        house = house_of(*nine, n=2, deeds="dial:b:a")
        self.assertEqual(longest_way(house), (20, scene_of(house, "ba:ring"), 0))

    def test_too_many(self):
        with self.assertRaises(TooMany):
            longest_way((*MANY_BY_ORDER[:1], MANY_BY_ORDER[1][::-1], MANY_BY_ORDER[2]))


class TwoTalks(unittest.TestCase):
    def first(self, house):
        """As the point says it, from all scenes and lines."""
        for scene in scenes_of(house):
            for line in range(house[0]):
                if len(talks_of(scene[0], line)) >= 2:
                    return (scene, line)
        return None

    def test_of_houses_without_a_join(self):
        for house in (house_of(n=2), house_of(n=3, deeds="all"), house_of(HOLD, n=3, deeds="all"),
                      house_of(SECOND, n=3, deeds="all"), house_of(PARK, BACK, n=3, deeds="all")):
            self.assertEqual(two_talks(house), None)

    def test_of_one_line_that_joins(self):
        house = house_of(THREE, n=3, deeds="all")
        scene, line = two_talks(house)
        self.assertEqual((scene, line), self.first(house))
        self.assertEqual((line, talks_of(scene[0], line)), (1, scene[0]))
        self.assertEqual(len(scene[0]), 2)
        house = house_of(("c", *THREE[1:4]), n=3, deeds="dial:a:c dial:c:b take:b take:c flash:c")
        self.assertEqual(two_talks(house), (scene_of(house, "ac:talk cb:talk"), 2))

    def test_of_three_talks_at_once(self):
        # The line joins only once it holds two calls.
        house = house_of(("a", "0 drop * talk keep 1", "1 drop * talk keep 2", "2 flash * - join 2"), n=4,
                         deeds="dial:a:b dial:a:c dial:a:d take:b take:c take:d drop:a flash:a")
        self.assertEqual(two_talks(house), (scene_of(house, "ab:talk ac:talk ad:talk", minds=(2,)), 0))
        self.assertEqual(two_talks(house), self.first(house))

    def test_of_two_lines_that_join(self):
        joins = [(letter, *THREE[1:4]) for letter in "cb"]
        house = house_of(*joins, n=4, deeds="dial:b:a dial:b:c dial:c:d take:a take:c take:d flash:b flash:c")
        lines = {tuple(line for line in range(4) if len(talks_of(scene[0], line)) >= 2) for scene in scenes_of(house)}
        self.assertEqual(lines, {(), (1,), (2,), (1, 2)})
        scene, line = two_talks(house)
        self.assertEqual((scene, line), self.first(house))
        self.assertEqual(calls_of(scene[0], line), talks_of(scene[0], line))

    def test_in_a_broken_scene(self):
        house = house_of((*THREE[:4], "tale 0 joins b - !"), n=3, deeds="dial:b:a dial:b:c take:a take:c flash:b")
        scene, line = two_talks(house)
        self.assertEqual((scene[0], line, broken(scene)), (scene_of(house, "ba:talk bc:talk")[0], 1, (0,)))
        # From a broken one none is gone on.
        house = house_of((*THREE[:4], "tale 0 flash b - !"), n=3, deeds="dial:b:a dial:b:c take:a take:c flash:b")
        self.assertEqual(two_talks(house), None)

    def test_too_many(self):
        with self.assertRaises(TooMany):
            two_talks((*MANY_BY_ORDER[:1], MANY_BY_ORDER[1][::-1], MANY_BY_ORDER[2]))


class WhatIsTold(unittest.TestCase):
    def test_kinds_and_that_nothing_is_changed(self):
        houses = [*SMALL_HOUSES.values(), house_of(THREE, n=3, deeds="all"), house_of(ENDLESS_BACKS, n=2, deeds="all")]
        for house in houses:
            before = repr(house)
            askings = [(longest_way, (house,)), (two_talks, (house,))]
            askings += [(way_out, (house, scene, line)) for scene in scenes_of(house)[:20] for line in range(house[0])]
            for asking, handed in askings:
                before_handed = repr(handed)
                told = asking(*handed)
                self.assertTrue(has_told_kinds(told), told)
                self.assertEqual(asking(*handed), told)
                self.assertEqual(repr(handed), before_handed)
            self.assertEqual(repr(house), before)


if __name__ == "__main__":
    unittest.main()
