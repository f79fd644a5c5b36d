"""Points 22 and 9, and 2's "of anything": which things are scenes, and which papers show a house quiet or a quarrel."""

import itertools
import unittest

from callwishes.booklooks import is_scene, shows_quiet
from callwishes.books import quiet_paper, scenes_of
from callwishes.points import begun
from callwishes.runs import broken, ran
from helper import (
    ALWAYS, BACK, ENGAGED, HOLD, KEPTOUT, PARK, SECOND, SMALL_HOUSES, THREE, WHOLE_THINGS, LookCase, found, house_of,
    places_in, put, row_in, scene_of,
)

HOWS = ("ring", "show", "talk", "hold0", "hold1", "busy", "shut", "back")
HOUSE = house_of(ALWAYS, KEPTOUT, n=3, deeds="all")
SCENE = (((0, 1, "hold0", 1), (2, 0, "talk", 0), (2, 1, "busy", 0)), 1, (0, 7), (None, 3))


class IsScene(LookCase):
    def look(self, thing):
        return is_scene(HOUSE, thing)

    def test_scenes_that_rows_lead_to(self):
        for house in SMALL_HOUSES.values():
            for scene in scenes_of(house):
                self.assertIs(is_scene(house, scene), True, scene)

    def test_scenes_of_any_calls(self):
        ways = [None] + [(way, how) for way in (0, 1) for how in HOWS]
        for at, chosen in enumerate(itertools.product(ways, repeat=3)):
            calls = []
            for pair, way in zip(((0, 1), (0, 2), (1, 2)), chosen):
                if way is not None:
                    calls.append((pair[way[0]], pair[1 - way[0]], way[1], at % 2))
            scene = (tuple(sorted(calls)), at // 2 % 2, (at % 8, 0), (0, at % 7))
            self.assertIs(self.look(scene), True, scene)
            if len(calls) > 1:
                self.assertIs(self.look(put(scene, (0,), tuple(sorted(calls, reverse=True)))), False, scene)

    def test_states(self):
        for state in range(8):
            self.assertIs(self.look(((), 0, (state, 7 - state), (7 - state, state))), True)
            self.assertIs(self.look(((), 0, (state, 7 - state), (None, None))), True)
            self.assertIs(self.look(((), 0, (state, None), (state, state))), False)
        for state in (-1, 8, "0", 1.0, True, [], ()):
            self.assertIs(self.look(((), 0, (0, state), (0, 0))), False)
            self.assertIs(self.look(((), 0, (0, 0), (state, 0))), False)

    def test_a_mind_and_a_tale_for_each_wish(self):
        for minds, tales in itertools.product(range(4), repeat=2):
            self.assertIs(self.look(((), 0, (0,) * minds, (0,) * tales)), minds == tales == 2)
        self.assertIs(is_scene(house_of(n=2), ((), 0, (), ())), True)
        self.assertIs(is_scene(house_of(n=2), ((), 0, (0,), (0,))), False)

    def test_lines_of_the_house(self):
        for n in (2, 3, 4):
            house = house_of(n=n)
            for caller, to in itertools.product(range(-1, 6), repeat=2):
                is_right = caller != to and 0 <= caller < n and 0 <= to < n
                self.assertIs(is_scene(house, (((caller, to, "ring", 0),), 0, (), ())), is_right, (n, caller, to))

    def test_calls_that_are_none(self):
        for call in ((0, 1, "ring"), (0, 1, "ring", 0, 0), (0, 1, "ring", 2), (0, 1, "ring", -1), (0, 1, "hold", 0),
                     (0, 1, "hold2", 0), (0, 1, "Ring", 0), (0, 1, "", 0), (0, 1, None, 0), (0, 1, 0, "ring"),
                     (0, 1, "ring", None), (0, None, "ring", 0), ("a", "b", "ring", 0), (0, 1, ("ring",), 0),
                     (0, True, "ring", 0), (False, 1, "ring", 0), (0, 1, "ring", False), [0, 1, "ring", 0], (), None):
            self.assertIs(self.look(((call,), 0, (0, 0), (0, 0))), False, call)

    def test_one_call_between_two_lines(self):
        for first, second in (((0, 1, "ring", 0), (0, 1, "ring", 0)), ((0, 1, "ring", 0), (0, 1, "talk", 0)),
                              ((0, 1, "busy", 0), (0, 1, "busy", 1)), ((0, 1, "busy", 0), (1, 0, "busy", 0)),
                              ((0, 2, "busy", 0), (2, 0, "shut", 1))):
            self.assertIs(self.look(((first, second), 0, (0, 0), (0, 0))), False)
        self.assertIs(self.look((((0, 1, "ring", 0), (0, 2, "ring", 0)), 0, (0, 0), (0, 0))), True)

    def test_sorted_calls(self):
        calls = SCENE[0]
        for order in itertools.permutations(calls):
            self.assertIs(self.look(put(SCENE, (0,), order)), order == calls)

    def test_nights(self):
        for night in (0, 1):
            self.assertIs(self.look(((), night, (0, 0), (0, 0))), True)
        for night in (2, -1, None, True, False, 1.0, "night", ()):
            self.assertIs(self.look(((), night, (0, 0), (0, 0))), False)

    def test_of_anything(self):
        self.check_odd_parts(self.look, SCENE)
        self.check_kinds(self.look, SCENE)
        for thing in (*WHOLE_THINGS, SCENE[:3], SCENE + (0,), SCENE[::-1], (SCENE,), list(SCENE)):
            self.assertIs(self.look(thing), False)


class ToldPapers(unittest.TestCase):
    def test_what_is_told_is_taken(self):
        for name, house in SMALL_HOUSES.items():
            self.assertIs(shows_quiet(house, quiet_paper(house)), True, name)

    def test_of_houses_with_all_deeds(self):
        for wishes in ((SECOND,), (HOLD, BACK), (KEPTOUT, ALWAYS), (THREE, PARK), (ENGAGED, SECOND), (PARK, BACK)):
            house = house_of(*wishes, n=3, deeds="all")
            paper = quiet_paper(house)
            self.assertIs(shows_quiet(house, paper), True, wishes)
            if len(paper) == 2:
                self.assertIs(shows_quiet(house, ("quiet", paper[1][::-1])), True)

    def test_of_another_house(self):
        kept, spoilt = SMALL_HOUSES["kept by order"], SMALL_HOUSES["broken by order"]
        self.assertIs(shows_quiet(spoilt, quiet_paper(kept)), False)
        self.assertIs(shows_quiet(kept, quiet_paper(spoilt)), False)
        names = ("no wishes, all deeds", "one wish, one deed", "kept by order", "broken at once", "quiet with minds")
        for one, other in itertools.permutations(names, 2):
            self.assertIs(shows_quiet(SMALL_HOUSES[one], quiet_paper(SMALL_HOUSES[other])), False, (one, other))
        # A book that is closed under more deeds is one of the house with fewer, too.
        fewer, more = SMALL_HOUSES["no wishes, one deed"], SMALL_HOUSES["no wishes, all deeds"]
        self.assertIs(shows_quiet(fewer, quiet_paper(more)), True)
        self.assertIs(shows_quiet(more, quiet_paper(fewer)), False)

    def test_nothing_handed_in_is_changed(self):
        for house in SMALL_HOUSES.values():
            paper = quiet_paper(house)
            before = repr((house, paper))
            self.assertEqual([shows_quiet(house, paper) for _ in range(2)], [True, True])
            self.assertEqual(repr((house, paper)), before)

    def test_of_anything(self):
        for house in (SMALL_HOUSES["no wishes, no deeds"], SMALL_HOUSES["broken at once"], HOUSE):
            for at, thing in enumerate(WHOLE_THINGS):
                self.assertIs(shows_quiet(house, thing), False, at)


class QuietPapers(LookCase):
    HOUSE = SMALL_HOUSES["quiet with minds"]
    PAPER = quiet_paper(HOUSE)

    def look(self, thing):
        return shows_quiet(self.HOUSE, thing)

    def test_scenes_in_other_orders(self):
        scenes = self.PAPER[1]
        self.assertGreater(len(scenes), 5)
        for at in range(len(scenes)):
            self.assertIs(self.look(("quiet", scenes[at:] + scenes[:at])), True)
            self.assertIs(self.look(("quiet", scenes[at:][::-1] + scenes[:at])), True)

    def test_a_scene_missing(self):
        scenes = self.PAPER[1]
        for at in range(len(scenes)):
            self.assertIs(self.look(("quiet", scenes[:at] + scenes[at + 1:])), False, at)
        self.assertIs(self.look(("quiet", ())), False)

    def test_the_begun_one_missing_from_a_closed_book(self):
        house = house_of(n=2, deeds="turn")
        talking = (scene_of(house, "ab:talk"), scene_of(house, "ab:talk", 1))
        self.assertIs(shows_quiet(house, ("quiet", talking)), False)
        self.assertIs(shows_quiet(house, ("quiet", talking + scenes_of(house))), True)

    def test_a_scene_doubled(self):
        scenes = self.PAPER[1]
        for at in range(len(scenes)):
            self.assertIs(self.look(("quiet", (*scenes, scenes[at]))), False, at)

    def test_more_scenes(self):
        house = house_of(n=2, deeds="turn")
        scenes = scenes_of(house)
        more = (scene_of(house, "ba:hold0:hid"), scene_of(house, "ba:hold0:hid", 1))
        self.assertIs(shows_quiet(house, ("quiet", more[:1] + scenes + more[1:])), True)
        self.assertIs(shows_quiet(house, ("quiet", scenes + more[:1])), False)
        self.assertIs(shows_quiet(house, ("quiet", scenes + more[1:])), False)

    def test_more_than_2000_scenes(self):
        house = house_of(("a",), ("a",), ("a",), ("a",), n=2)
        scenes = tuple(((), 0, minds, (0, 0, 0, 0)) for minds in itertools.product(range(7), repeat=4))
        self.assertEqual(len(scenes), 2401)
        self.assertIs(shows_quiet(house, ("quiet", scenes)), True)

    def test_a_broken_scene(self):
        house = house_of(("b", "tale 0 rings a,b - !"), n=2, deeds="dial:a:b turn")
        self.assertIs(shows_quiet(house, ("quiet", scenes_of(house))), False)
        house = house_of(("b",), n=2)
        spoilt = scene_of(house, tales=(None,))
        self.assertIs(shows_quiet(house, ("quiet", (begun(house), scene_of(house, tales=(1,))))), True)
        self.assertIs(shows_quiet(house, ("quiet", (begun(house), spoilt))), False)
        self.assertIs(shows_quiet(house, ("quiet", (spoilt,))), False)

    def test_a_scene_of_another_house(self):
        house = house_of(n=2)
        for scene in (((), 0, (0,), (0,)), (((0, 2, "ring", 0),), 0, (), ())):
            self.assertIs(shows_quiet(house, ("quiet", (begun(house), scene))), False)

    def test_another_scene_in_a_scenes_place(self):
        for place in places_in(self.PAPER):
            part = found(self.PAPER, place)
            for other in (*range(8), None, *HOWS):
                if not isinstance(part, tuple) and part != other:
                    self.assertIs(self.look(put(self.PAPER, place, other)), False, (place, other))

    def test_a_quarrels_word_or_parts(self):
        scenes = self.PAPER[1]
        for thing in (("quarrel", scenes), ("quiet", scenes, ()), ("quiet", (), 0, (scenes,)), ("quiet", (scenes,)),
                      (scenes,), (scenes, "quiet"), scenes, ("quarrel", (), 0, ()), ("quarrel", (), 0, (scenes,))):
            self.assertIs(self.look(thing), False)

    def test_of_anything(self):
        self.check_odd_parts(self.look, self.PAPER)
        self.check_kinds(self.look, self.PAPER)
        for thing in WHOLE_THINGS:
            self.assertIs(self.look(("quiet", thing)), False)
            self.assertIs(self.look(("quiet", (begun(self.HOUSE), thing))), False)
            self.assertIs(self.look(("quiet", (*self.PAPER[1], thing))), False)


class QuarrelPapers(LookCase):
    HOUSE = SMALL_HOUSES["two rows of one size"]
    PAPER = quiet_paper(HOUSE)
    AT_ONCE = SMALL_HOUSES["broken at once"]

    def look(self, thing):
        return shows_quiet(self.HOUSE, thing)

    def with_layers(self, *layers):
        return ("quarrel", self.PAPER[1], 0, layers)

    def test_any_shortest_row(self):
        layers = self.PAPER[3]
        taken = [row for row in itertools.product(self.HOUSE[2], repeat=3)
                 if self.look(("quarrel", row, 0, layers))]
        self.assertEqual(taken, [row for row in itertools.product(self.HOUSE[2], repeat=3)
                                 if broken(ran(self.HOUSE, row)[0])])
        self.assertIn(row_in("turn dial:c:b take:b"), taken)

    def test_a_row_that_breaks_nothing(self):
        for row in ("turn turn turn", "dial:a:b take:b turn", "take:b take:b take:b"):
            self.assertIs(self.look(("quarrel", row_in(row), 0, self.PAPER[3])), False)

    def test_a_row_of_another_size(self):
        layers = self.PAPER[3]
        for row in ("", "dial:a:b turn", "turn turn dial:a:b turn take:b", "turn dial:a:b take:b turn"):
            self.assertIs(self.look(("quarrel", row_in(row), 0, layers)), False)

    def test_a_longer_row_has_no_layers(self):
        house = house_of(("b", "tale 0 rings a,b - !"), n=2, deeds="dial:a:b turn")
        scenes = (begun(house), scene_of(house, night=1))
        self.assertIs(shows_quiet(house, ("quarrel", row_in("dial:a:b"), 0, (scenes,))), True)
        for row in ("turn dial:a:b", "dial:a:b turn", "dial:a:b dial:a:b"):
            for layers in ((scenes, scenes), (scenes[:1], scenes[1:]), (scenes[:1], scenes)):
                self.assertIs(shows_quiet(house, ("quarrel", row_in(row), 0, layers)), False)
        # Without the shorter row among its deeds the longer one is a shortest one.
        house = house_of(("b", "tale 0 rings a,b night !"), n=2, deeds="dial:a:b turn")
        layers = ((begun(house),), (scene_of(house, "ab:ring"), scene_of(house, night=1)))
        self.assertIs(shows_quiet(house, ("quarrel", row_in("turn dial:a:b"), 0, layers)), True)

    def test_a_row_of_deeds_that_the_house_hasnt(self):
        house = house_of(("b", "tale 0 rings *,b - !"), n=3, deeds="dial:a:b turn")
        layers = ((begun(house),),)
        self.assertIs(shows_quiet(house, ("quarrel", row_in("dial:a:b"), 0, layers)), True)
        for row in (row_in("dial:c:b"), (("dial", 3, 1),), (("dial", 1),), (("ring", 0, 1),), (("dial", 0, 1, 0),),
                    (("dial", False, True),), ("dial",), (["dial", 0, 1],), [("dial", 0, 1)], (None,), (("dial", 0.0, 1),)):
            self.assertIs(shows_quiet(house, ("quarrel", row, 0, layers)), False, row)

    def test_any_wish_broken_then(self):
        layers = ((begun(self.AT_ONCE),),)
        for k, is_broken in ((0, False), (1, True), (2, True), (3, False), (-1, False), (-2, False)):
            paper = ("quarrel", row_in("dial:a:b"), k, layers)
            self.assertIs(shows_quiet(self.AT_ONCE, paper), is_broken, k)
        for k in (None, True, 1.0, "1", (1,), [1], b"1"):
            self.assertIs(shows_quiet(self.AT_ONCE, ("quarrel", row_in("dial:a:b"), k, layers)), False)

    def test_scenes_in_other_orders(self):
        first, second, third = self.PAPER[3]
        for order in itertools.permutations(second):
            self.assertIs(self.look(self.with_layers(first, order, third[::-1])), True)

    def test_a_scene_missing(self):
        layers = self.PAPER[3]
        for at, layer in enumerate(layers):
            for k in range(len(layer)):
                spoilt = layers[:at] + (layer[:k] + layer[k + 1:],) + layers[at + 1:]
                self.assertIs(self.look(self.with_layers(*spoilt)), False, (at, k))

    def test_more_scenes(self):
        first, second, third = self.PAPER[3]
        off = scene_of(self.HOUSE, "ba:talk")
        self.assertIs(self.look(self.with_layers(first, second, (off, *third))), True)
        # In a layer but the last it leads to itself by dial and take, and by turn to its night.
        night = scene_of(self.HOUSE, "ba:talk", 1)
        dialled = (scene_of(self.HOUSE, "ba:talk cb:busy"),)
        self.assertIs(self.look(self.with_layers(first, (*second, off), third)), False)
        self.assertIs(self.look(self.with_layers(first, (*second, off), (*third, night))), False)
        self.assertIs(self.look(self.with_layers(first, (*second, off), (*third, night, *dialled))), True)
        self.assertIs(self.look(self.with_layers((off, *first), second, (*third, night, *dialled))), False)
        self.assertIs(self.look(self.with_layers((off, *first), (night, *dialled, *second), third)), False)

    def test_a_scene_twice_is_but_one_more(self):
        first, second, third = self.PAPER[3]
        self.assertIs(self.look(self.with_layers(first + first, second + second, third + third)), True)
        self.assertIs(self.look(self.with_layers(first, second + first, third + second + first)), True)

    def test_a_scene_in_another_layer(self):
        first, second, third = self.PAPER[3]
        for at in range(3):
            rest = second[:at] + second[at + 1:]
            self.assertIs(self.look(self.with_layers(first, rest, (*third, second[at]))), False)
            self.assertIs(self.look(self.with_layers((*first, second[at]), rest, third)), False)
        self.assertIs(self.look(self.with_layers(second, first, third)), False)

    def test_the_begun_one_is_in_the_first_layer(self):
        layers = ((scene_of(self.AT_ONCE, night=1),),)
        self.assertIs(shows_quiet(self.AT_ONCE, ("quarrel", row_in("dial:a:b"), 1, layers)), False)
        layers = ((scene_of(self.AT_ONCE, night=1), begun(self.AT_ONCE)),)
        self.assertIs(shows_quiet(self.AT_ONCE, ("quarrel", row_in("dial:a:b"), 1, layers)), True)
        self.assertIs(shows_quiet(self.AT_ONCE, ("quarrel", row_in("dial:a:b"), 1, ((),))), False)

    def test_a_broken_scene(self):
        first, second, third = self.PAPER[3]
        spoilt = ran(self.HOUSE, self.PAPER[1])[0]
        self.assertEqual(broken(spoilt), (0,))
        for layers in (((*first, spoilt), second, third), (first, (*second, spoilt), third),
                       (first, second, (*third, spoilt))):
            self.assertIs(self.look(self.with_layers(*layers)), False)

    def test_a_scene_of_another_house(self):
        first, second, third = self.PAPER[3]
        for scene in (((), 0, (), ()), ((), 0, (0, 0), (0, 0)), (((0, 3, "ring", 0),), 0, (0,), (0,))):
            self.assertIs(self.look(self.with_layers(first, second, (*third, scene))), False)

    def test_a_layer_more_or_less(self):
        first, second, third = self.PAPER[3]
        for layers in ((), (first,), (first, second), (second, third), (first, third), (first, second, third, ()),
                       ((), first, second, third), (first, second, third, third), (first, second, second, third),
                       (first + second + third,)):
            self.assertIs(self.look(self.with_layers(*layers)), False)

    def test_of_no_deeds_nothing_is_broken(self):
        for house in (self.HOUSE, house_of(ALWAYS, n=3), house_of(n=2)):
            for layers in ((), ((begun(house),),), ((),)):
                for k in (0, 1, None):
                    self.assertIs(shows_quiet(house, ("quarrel", (), k, layers)), False)

    def test_another_scene_in_a_scenes_place(self):
        for place in places_in(self.PAPER):
            part = found(self.PAPER, place)
            if place[:1] == (3,) and not isinstance(part, tuple):
                for other in (*range(8), None, *HOWS):
                    if part != other:
                        self.assertIs(self.look(put(self.PAPER, place, other)), False, (place, other))

    def test_of_anything(self):
        self.check_odd_parts(self.look, self.PAPER)
        self.check_kinds(self.look, self.PAPER)
        word, row, k, layers = self.PAPER
        for thing in WHOLE_THINGS:
            for paper in (("quarrel", thing, k, layers), ("quarrel", row, thing, layers), ("quarrel", row, k, thing),
                          ("quarrel", row, k, (*layers[:2], (*layers[2], thing))), ("quiet", thing, k, layers)):
                self.assertIs(self.look(paper), False)


if __name__ == "__main__":
    unittest.main()
