"""Points 20 and 21: the scenes of a house, quiet papers and quarrels."""

import itertools
import unittest

from callwishes.books import quiet_paper, scenes_of
from callwishes.deeds import stepped
from callwishes.errors import TooMany
from callwishes.points import begun
from callwishes.runs import broken, ran
from helper import (
    ALWAYS, BACK, BARRED, ENGAGED, HOLD, KEPTOUT, LATE, PARK, SECOND, SMALL_HOUSES, THREE, counting, has_told_kinds,
    house_of, row_in, scene_of,
)

COUNTED = (("flash:a", 8), ("flash:b", 5), ("flash:c", 5), ("flash:d", 5), ("take:a", 2))
COUNTED_DEEDS = "take:a flash:a flash:b flash:c flash:d"


def counting_house(deeds):
    """Of 2000 scenes, 8 * 5 * 5 * 5 * 2, without the deed dial; a dial leads from all of them to one more."""
    wishes = [counting("a", deed, many, *[f"tale {state} rings a,b - 0" for state in range(many)])
              for deed, many in COUNTED]
    return house_of(*wishes, deeds=deeds)


def counted_quarrel(*last_rules, deeds):
    """Five wishes count a deed each; the sixth's tale breaks."""
    wishes = [counting("a", deed, 8) for deed, many in COUNTED]
    return house_of(*wishes, ("a", *last_rules), deeds=deeds)


EIGHT_TAKES = [f"tale {state} take b - {state + 1 if state < 7 else '!'}" for state in range(8)]
EIGHT_TAKES_THE_LAST_BY_NIGHT = EIGHT_TAKES[:7] + ["tale 7 take b night !"]


def layers_by_rows(house):
    """Layers of scenes as rows lead to them, size by size; none is gone on from a broken one."""
    layers, known = [], []
    rows = [()]
    while rows:
        layer, longer = [], []
        for row in rows:
            scene = ran(house, row)[0]
            if scene not in known:
                known.append(scene)
                layer.append(scene)
                if not broken(scene):
                    longer.append(row)
        layers.append(tuple(layer))
        rows = [(*row, deed) for row in longer for deed in house[2]]
    return tuple(layer for layer in layers if layer)


def first_breaking_row(house, most):
    """The first of all rows, by size, behind which a tale is broken, or None."""
    for size in range(most + 1):
        for row in itertools.product(house[2], repeat=size):
            if broken(ran(house, row)[0]):
                return row
    return None


class Scenes(unittest.TestCase):
    def test_without_deeds_there_is_the_begun_one_alone(self):
        for house in (house_of(n=2), house_of(n=4), house_of(ALWAYS, KEPTOUT, n=3)):
            self.assertEqual(scenes_of(house), (begun(house),))

    def test_of_one_deed(self):
        house = house_of(n=2, deeds="dial:a:b")
        self.assertEqual(scenes_of(house), (scene_of(house), scene_of(house, "ab:ring")))
        house = house_of(n=2, deeds="turn")
        self.assertEqual(scenes_of(house), (scene_of(house), scene_of(house, night=1)))
        house = house_of(n=2, deeds="take:a")
        self.assertEqual(scenes_of(house), (scene_of(house),))

    def test_they_stand_as_they_are_come_to(self):
        house = house_of(n=2, deeds="dial:a:b dial:b:a take:b drop:a turn")
        self.assertEqual(scenes_of(house), (
            scene_of(house), scene_of(house, "ab:ring"), scene_of(house, "ba:ring"), scene_of(house, night=1),
            scene_of(house, "ab:talk"), scene_of(house, "ab:ring", 1), scene_of(house, "ba:ring", 1),
            scene_of(house, "ab:talk", 1)))

    def test_of_all_deeds_without_wishes(self):
        for n, many in ((2, 10), (3, 102), (4, 1134)):
            house = house_of(n=n, deeds="all")
            scenes = scenes_of(house)
            self.assertEqual((len(scenes), scenes[0]), (many, begun(house)))
            self.assertEqual(len(set(scenes)), many)
            if n < 4:
                for scene, deed in itertools.product(scenes, house[2]):
                    self.assertIn(stepped(house, scene, deed)[0], scenes)

    def test_as_rows_lead_to_them(self):
        for name, house in SMALL_HOUSES.items():
            scenes = tuple(itertools.chain(*layers_by_rows(house)))
            self.assertEqual(scenes_of(house), scenes, name)

    def test_none_is_gone_on_from_a_broken_one(self):
        house = house_of(("b", "tale 0 rings a,b - !"), n=2, deeds="dial:a:b take:b turn")
        self.assertEqual(scenes_of(house), (
            scene_of(house), scene_of(house, "ab:ring", tales=(None,)), scene_of(house, night=1),
            scene_of(house, "ab:ring", 1, tales=(None,))))

    def test_a_scene_is_another_by_its_minds_or_tales_alone(self):
        house = house_of(("a", "0 drop * - pass 1"), ("b", "tale 0 turn - - 2"), n=2, deeds="drop:a turn")
        self.assertEqual(scenes_of(house), (
            scene_of(house), scene_of(house, minds=(1, 0)), scene_of(house, night=1, tales=(0, 2)),
            scene_of(house, night=1, minds=(1, 0), tales=(0, 2)), scene_of(house, tales=(0, 2)),
            scene_of(house, minds=(1, 0), tales=(0, 2))))

    def test_2000_are_not_too_many(self):
        self.assertEqual(len(scenes_of(counting_house(COUNTED_DEEDS))), 2000)

    def test_2001_are_too_many(self):
        house = counting_house("dial:a:b " + COUNTED_DEEDS)
        scenes = scenes_of(counting_house(COUNTED_DEEDS))
        more = {stepped(house, scene, deed)[0] for scene in scenes for deed in house[2]} - set(scenes)
        self.assertEqual(more, {scene_of(house, "ab:ring")})
        with self.assertRaises(TooMany):
            scenes_of(house)

    def test_broken_scenes_count_too(self):
        # One more wish breaks by take:b, so each scene that isn't broken leads to one that is.
        for counted, many in ((COUNTED[:4], 2000), (COUNTED, 4000)):
            wishes = [counting("a", deed, states) for deed, states in counted]
            house = house_of(*wishes, ("b", "tale 0 take b - !"), deeds=COUNTED_DEEDS.replace("flash:a", "take:b flash:a"))
            if many == 2000:
                scenes = scenes_of(house)
                self.assertEqual((len(scenes), sum(1 for scene in scenes if broken(scene))), (2000, 1000))
            else:
                with self.assertRaises(TooMany):
                    scenes_of(house)


class Quiet(unittest.TestCase):
    def test_a_quiet_house_has_its_scenes(self):
        for name in ("no wishes, no deeds", "no wishes, one deed", "no wishes, all deeds", "wishes, no deeds",
                     "one wish, one deed", "kept by order", "quiet with minds"):
            house = SMALL_HOUSES[name]
            self.assertEqual(quiet_paper(house), ("quiet", scenes_of(house)), name)

    def test_wishes_that_keep_their_tales_alone(self):
        for wish in (ALWAYS, ENGAGED, LATE, BARRED, KEPTOUT, SECOND, HOLD, THREE, PARK, BACK):
            house = house_of(wish, n=3, deeds="all")
            self.assertEqual(quiet_paper(house), ("quiet", scenes_of(house)), wish)

    def test_2000_scenes_and_one_more(self):
        house = counting_house(COUNTED_DEEDS)
        self.assertEqual(quiet_paper(house), ("quiet", scenes_of(house)))
        with self.assertRaises(TooMany):
            quiet_paper(counting_house("dial:a:b " + COUNTED_DEEDS))


class Quarrel(unittest.TestCase):
    def test_by_one_deed(self):
        house = SMALL_HOUSES["broken by order"]
        self.assertEqual(quiet_paper(house), ("quarrel", (("dial", 0, 1),), 1, ((begun(house),),)))

    def test_by_several_deeds(self):
        house = SMALL_HOUSES["two rows of one size"]
        self.assertEqual(quiet_paper(house), ("quarrel", row_in("dial:a:b turn take:b"), 0, (
            (scene_of(house),),
            (scene_of(house, "ab:ring"), scene_of(house, "cb:ring"), scene_of(house, night=1)),
            (scene_of(house, "ab:ring cb:busy"), scene_of(house, "ab:talk"), scene_of(house, "ab:ring", 1),
             scene_of(house, "ab:busy cb:ring"), scene_of(house, "cb:talk"), scene_of(house, "cb:ring", 1)))))

    def test_of_rows_of_one_size_the_first_counts(self):
        tale = ("b", "tale 0 rings *,b - !")
        for deeds, row in (("dial:a:b dial:c:b", "dial:a:b"), ("dial:c:b", "dial:c:b")):
            self.assertEqual(quiet_paper(house_of(tale, n=3, deeds=deeds))[1], row_in(row))
        tale = ("a", "tale 0 turn - - 1", "tale 1 drop a - !", "tale 0 drop a - 2", "tale 2 turn - - !")
        self.assertEqual(quiet_paper(house_of(tale, n=2, deeds="drop:a turn"))[1], row_in("drop:a turn"))
        # As texts turn wait would be the first, and wait turn comes first by the deeds' order.
        tale = ("a", "tale 0 turn - - 1", "tale 1 wait - - !", "tale 0 wait - - 2", "tale 2 turn - - !")
        self.assertEqual(quiet_paper(house_of(tale, n=2, deeds="wait turn"))[1], row_in("wait turn"))
        # As texts drop flash would be ahead of take.
        tale = ("a", "tale 0 take a - !", "tale 0 drop a - !", "tale 0 flash a - !", "tale 0 dial a,b - !")
        for deeds in ("dial:a:b take:a drop:a flash:a", "take:a drop:a flash:a", "drop:a flash:a", "flash:a"):
            self.assertEqual(quiet_paper(house_of(tale, n=2, deeds=deeds))[1], row_in(deeds)[:1])

    def test_a_shorter_row_counts_ahead_of_one_with_earlier_deeds(self):
        tale = ("a", "tale 0 drop a - 1", "tale 1 drop a - !", "tale 0 turn - - !")
        self.assertEqual(quiet_paper(house_of(tale, n=2, deeds="drop:a turn"))[1], row_in("turn"))

    def test_the_least_wish_broken_then(self):
        house = SMALL_HOUSES["broken at once"]
        self.assertEqual(quiet_paper(house), ("quarrel", row_in("dial:a:b"), 1, ((begun(house),),)))
        house = house_of(("a", "tale 0 rings b,a - !"), ("a",), ("b", "tale 0 rings a,b - !"),
                         ("c", "tale 0 rings a,b - !"), n=3, deeds="dial:a:b dial:b:a")
        self.assertEqual(quiet_paper(house)[1:3], (row_in("dial:a:b"), 2))

    def test_as_rows_lead_to_it(self):
        quarrels = 0
        for name, house in SMALL_HOUSES.items():
            paper = quiet_paper(house)
            row = first_breaking_row(house, 3)
            if row is None:
                self.assertEqual(paper[0], "quiet", name)
                continue
            quarrels += 1
            layers = layers_by_rows(house)[:len(row)]
            self.assertEqual(paper, ("quarrel", row, broken(ran(house, row)[0])[0], layers), name)
        self.assertEqual(quarrels, 5)

    def test_layers_and_not_what_comes_behind_them_are_counted(self):
        deeds = "take:a take:b flash:a flash:b flash:c flash:d"
        word, row, k, layers = quiet_paper(counted_quarrel(*EIGHT_TAKES, deeds=deeds))
        self.assertEqual((word, row, k), ("quarrel", (("take", 1),) * 8, 5))
        # Six numbers of a sum of at most 7: that is 1716; those of the sum 8 would make it 3003.
        self.assertEqual([len(layer) for layer in layers], [1, 6, 21, 56, 126, 252, 462, 792])

    def test_layers_of_too_many_scenes(self):
        deeds = "take:a take:b flash:a flash:b flash:c flash:d turn"
        house = counted_quarrel(*EIGHT_TAKES_THE_LAST_BY_NIGHT, deeds=deeds)
        self.assertEqual(broken(ran(house, row_in("take:b " * 7 + "turn take:b"))[0]), (5,))
        with self.assertRaises(TooMany):
            quiet_paper(house)

    def test_a_quarrel_is_told_of_a_house_of_too_many_scenes(self):
        house = counted_quarrel("tale 0 turn - - !", deeds="take:a take:b flash:a flash:b flash:c flash:d turn")
        self.assertEqual(quiet_paper(house), ("quarrel", row_in("turn"), 5, ((begun(house),),)))
        with self.assertRaises(TooMany):
            scenes_of(house)


class WhatIsTold(unittest.TestCase):
    def test_kinds_and_that_nothing_is_changed(self):
        for name, house in SMALL_HOUSES.items():
            before = repr(house)
            for asking in (scenes_of, quiet_paper):
                told = asking(house)
                self.assertTrue(has_told_kinds(told), name)
                self.assertEqual(asking(house), told, name)
                self.assertEqual(repr(house), before)


if __name__ == "__main__":
    unittest.main()
