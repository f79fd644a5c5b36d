"""Points 28 and 29: houses that are alike, houses without a wish, idle wishes."""

import itertools
import unittest

from callwishes.alike import alike_paper, idle_wishes, scene_without, without
from callwishes.books import scenes_of
from callwishes.errors import TooMany
from callwishes.points import begun
from callwishes.runs import ran
from callwishes.wishes import is_house
from helper import (
    ALWAYS, BACK, BARRED, ENGAGED, HOLD, KEPTOUT, LATE, PARK, SECOND, SMALL_HOUSES, THREE, has_told_kinds, house_of,
    orbit, row_in,
)

NEVER = ("a", "3 in * - shut 0", "0 met * talk pass 0")
DEEDS = "dial:a:b dial:c:b take:b take:c drop:a turn"


def pairs_by_rows(one, other):
    """All pairs of scenes without tales, as rows lead to them, size by size; None where events differ."""
    pairs, rows = [], [()]
    while rows:
        longer = []
        for row in rows:
            scene_one, events_one = ran(one, row)
            scene_other, events_other = ran(other, row)
            if events_one != events_other:
                return None
            pair = (scene_one[:3], scene_other[:3])
            if pair not in pairs:
                pairs.append(pair)
                longer += [(*row, deed) for deed in one[2]]
        rows = longer
    return tuple(pairs)


def parting_row(one, other, most):
    """The first of all rows, by size, whose last deed's events differ, or None."""
    for size in range(1, most + 1):
        for row in itertools.product(one[2], repeat=size):
            if ran(one, row)[1][-1] != ran(other, row)[1][-1]:
                return row
    return None


class Alike(unittest.TestCase):
    def check_alike(self, one, other):
        pairs = pairs_by_rows(one, other)
        self.assertIsNotNone(pairs)
        self.assertEqual(alike_paper(one, other), ("alike", pairs))

    def test_a_house_and_itself(self):
        for name, house in SMALL_HOUSES.items():
            paper = alike_paper(house, house)
            self.assertEqual(paper, ("alike", pairs_by_rows(house, house)), name)
            self.assertEqual([one for one, other in paper[1]], [other for one, other in paper[1]], name)

    def test_of_no_deeds_there_is_the_begun_pair_alone(self):
        one, other = house_of(ALWAYS, KEPTOUT, n=3), house_of(n=3)
        self.assertEqual(alike_paper(one, other), ("alike", ((((), 0, (0, 0)), ((), 0, ())),)))

    def test_of_one_deed(self):
        one, other = house_of(n=2, deeds="turn"), house_of(BACK[:1], n=2, deeds="turn")
        self.assertEqual(alike_paper(one, other),
                         ("alike", ((((), 0, ()), ((), 0, (0,))), (((), 1, ()), ((), 1, (0,))))))

    def test_pairs_stand_as_they_are_come_to(self):
        one = house_of(n=2, deeds="dial:a:b dial:b:a take:b drop:a turn")
        other = house_of(("a", "0 drop * - pass 1", "1 drop * - pass 0"), n=2, deeds="dial:a:b dial:b:a take:b drop:a turn")
        pairs = alike_paper(one, other)[1]
        self.assertEqual([(one[0], one[1], other[2][0]) for one, other in pairs[:6]], [
            ((), 0, 0), (((0, 1, "ring", 0),), 0, 0), (((1, 0, "ring", 0),), 0, 0), ((), 0, 1), ((), 1, 0),
            (((0, 1, "talk", 0),), 0, 0)])
        self.assertTrue(all(one[:2] == other[:2] for one, other in pairs))
        self.assertEqual(len(pairs), 16)
        self.check_alike(one, other)

    def test_with_a_wish_more_that_never_does_anything(self):
        for idle in (("a",), ("b", "0 in * - pass 0"), ("b", "5 in * - shut 0"), ("b", "0 in * - pass 5"),
                     ("b", "0 flash * shown swap 0"), ("c", "0 long b - shut 0"), ("a", "0 met * - pass 7"),
                     ("c", "0 in * hid shut 1")):
            for wishes in ((), (ALWAYS,), (KEPTOUT,)):
                one = house_of(*wishes, n=3, deeds=DEEDS)
                for at in range(len(wishes) + 1):
                    other = house_of(*wishes[:at], idle, *wishes[at:], n=3, deeds=DEEDS)
                    self.check_alike(one, other)
                    self.check_alike(other, one)

    def test_with_other_names_of_states(self):
        one = ("b", "0 in * - pass 1", "1 in * - shut 2", "2 in * night pass 0", "2 in * day send:c 1")
        other = ("b", "0 in * - pass 6", "6 in * - shut 3", "3 in * night pass 0", "3 in * day send:c 6")
        one, other = house_of(one, n=3, deeds=DEEDS), house_of(other, n=3, deeds=DEEDS)
        self.check_alike(one, other)
        self.assertEqual({(one[2], other[2]) for one, other in alike_paper(one, other)[1]},
                         {((0,), (0,)), ((1,), (6,)), ((2,), (3,))})

    def test_with_more_states_for_the_same(self):
        one = house_of(("b", "0 in * - shut 0"), n=3, deeds=DEEDS)
        other = house_of(("b", "0 in * - shut 1", "1 in * - shut 2", "2 in * - shut 0"), n=3, deeds=DEEDS)
        self.check_alike(one, other)
        self.assertGreater(len(alike_paper(one, other)[1]), len(alike_paper(one, one)[1]))

    def test_with_other_orders(self):
        barred_a = ("a", "0 out c - bar 0")
        self.check_alike(house_of(ALWAYS, barred_a, n=3, deeds=DEEDS), house_of(barred_a, ALWAYS, n=3, deeds=DEEDS))
        one, other = house_of(ALWAYS, KEPTOUT, n=3, deeds=DEEDS), house_of(KEPTOUT, ALWAYS, n=3, deeds=DEEDS)
        self.assertEqual(alike_paper(one, other), ("unlike", row_in("dial:a:b")))

    def test_where_tales_differ_and_events_dont(self):
        tales = ((), ("tale 0 rings *,b - 1",), ("tale 0 turn - - !",), ALWAYS[2:], ("tale 0 done - - 7",))
        houses = [house_of(("b", "0 in * night shut 0", *tale), n=3, deeds=DEEDS) for tale in tales]
        for one, other in itertools.product(houses, repeat=2):
            self.check_alike(one, other)
            self.assertEqual(alike_paper(one, other), alike_paper(houses[0], houses[0]))

    def test_of_houses_with_all_deeds(self):
        for wishes in ((SECOND,), (HOLD, BACK), (THREE, PARK), (LATE, ENGAGED)):
            one, other = house_of(*wishes, n=3, deeds="all"), house_of(*wishes, NEVER, n=3, deeds="all")
            word, pairs = alike_paper(one, other)
            self.assertEqual(word, "alike")
            self.assertEqual(pairs[0], (begun(one)[:3], begun(other)[:3]))
            self.assertEqual({pair[0] for pair in pairs}, {scene[:3] for scene in scenes_of(tale_less(one))})
            self.assertEqual(len(set(pairs)), len(pairs))


def tale_less(house):
    n, wishes, deeds = house
    return (n, tuple((me, rules, ()) for me, rules, tale in wishes), deeds)


class Unlike(unittest.TestCase):
    def check_row(self, one, other, row):
        """The row is told; no shorter one, and none ahead of it, has a last deed whose events differ."""
        self.assertEqual(alike_paper(one, other), ("unlike", row_in(row)))
        self.assertEqual(alike_paper(other, one), ("unlike", row_in(row)))
        self.assertEqual(parting_row(one, other, len(row_in(row))), row_in(row))

    def test_by_the_first_deed(self):
        none = house_of(n=3, deeds=DEEDS)
        for wish, row in ((ALWAYS, "dial:a:b"), (KEPTOUT, "dial:a:b"), (("b", "0 in c - shut 0"), "dial:c:b"),
                          (("a", "0 out * - hide 0"), "dial:a:b"), (("b", "0 in * - also:c 0"), "dial:a:b"),
                          (("c", "0 out * - bar 0"), "dial:c:b")):
            self.check_row(none, house_of(wish, n=3, deeds=DEEDS), row)

    def test_by_later_deeds(self):
        deeds = "dial:a:b dial:c:b take:b drop:a drop:b drop:c flash:b wait turn"
        none = house_of(n=3, deeds=deeds)
        for wish, row in ((ENGAGED, "dial:a:b dial:c:b"), (SECOND, "dial:a:b take:b dial:c:b"),
                          (HOLD, "dial:a:b take:b flash:b"), (PARK, "dial:a:b take:b drop:b"), (LATE, "dial:a:b wait"),
                          (("b", "0 in * night shut 0"), "turn dial:a:b"),
                          (("c", "0 met b - pass 1", "1 free b idle ring 0"), "dial:a:b dial:c:b drop:c drop:a")):
            self.check_row(none, house_of(wish, n=3, deeds=deeds), row)

    def test_by_minds_that_came_apart_ahead(self):
        one = ("b", "0 flash * - pass 1", "1 flash * - pass 2", "2 in * - shut 0")
        other = ("b", "0 flash * - pass 1", "1 flash * - pass 0", "2 in * - shut 0")
        deeds = "dial:a:b flash:b turn"
        self.check_row(house_of(one, n=2, deeds=deeds), house_of(other, n=2, deeds=deeds), "flash:b flash:b dial:a:b")

    def test_of_rows_of_one_size_the_first_counts(self):
        none = house_of(n=3, deeds=DEEDS)
        self.check_row(none, house_of(("b", "0 in * - shut 0"), n=3, deeds=DEEDS), "dial:a:b")
        self.check_row(none, house_of(("b", "0 in c night shut 0", "0 in a night send:c 0"), n=3, deeds=DEEDS),
                       "turn dial:a:b")
        # As texts drop would be ahead of flash and take, and turn ahead of wait.
        odd = ("a", "0 drop * - pass 1", "1 out * - bar 0")
        taken = ("b", "0 flash * - pass 1", "1 in * - shut 0")
        deeds = "dial:a:b drop:a flash:b"
        self.check_row(house_of(n=2, deeds=deeds), house_of(odd, taken, n=2, deeds=deeds), "drop:a dial:a:b")
        # Behind either a turn or a wait; wait stands ahead of turn.
        late = ("b", "0 long * - shut 0", "0 in * night shut 0")
        self.check_row(house_of(n=2, deeds="dial:a:b wait turn"), house_of(late, n=2, deeds="dial:a:b wait turn"),
                       "dial:a:b wait")

    def test_a_shorter_row_counts_ahead_of_one_with_earlier_deeds(self):
        deeds = "dial:a:b dial:c:b take:b drop:a"
        wish = ("b", "0 full * - shut 0", "0 in c - send:a 0")
        self.check_row(house_of(n=3, deeds=deeds), house_of(wish, n=3, deeds=deeds), "dial:c:b")

    def test_a_broken_tale_stops_nothing(self):
        broken = ("b", "0 in * night shut 0", "tale 0 turn - - !")
        self.check_row(house_of(n=3, deeds=DEEDS), house_of(broken, n=3, deeds=DEEDS), "turn dial:a:b")
        deeds = "dial:a:b drop:a turn"
        one = house_of(("b", "0 in * - pass 1", "1 in * night shut 0", "tale 0 rings a,b - !"), n=2, deeds=deeds)
        self.check_row(one, house_of(n=2, deeds=deeds), "dial:a:b drop:a turn dial:a:b")

    def test_a_hid_name_alone_makes_events_differ(self):
        deeds = "dial:a:b take:b"
        one, other = house_of(("a", "0 out * - hide 0"), n=2, deeds=deeds), house_of(n=2, deeds=deeds)
        self.check_row(one, other, "dial:a:b")
        self.assertEqual([event[:2] for event in ran(one, row_in("dial:a:b"))[1][0]],
                         [event[:2] for event in ran(other, row_in("dial:a:b"))[1][0]])

    def test_as_rows_tell_it(self):
        wishes = [(), (ALWAYS,), (KEPTOUT,), (ENGAGED,), (ALWAYS, KEPTOUT), (KEPTOUT, ALWAYS), (NEVER,), (BARRED,),
                  (("b", "0 in a - shut 0"), ("b", "0 in c - shut 0")), (("b", "0 in * - pass 1", "1 in * - shut 1"),)]
        houses = [house_of(*each, n=3, deeds="dial:a:b dial:c:b drop:a") for each in wishes]
        told = []
        for one, other in itertools.product(houses, repeat=2):
            row = parting_row(one, other, 4)
            paper = alike_paper(one, other)
            told.append(paper[0])
            self.assertEqual(paper, ("unlike", row) if row else ("alike", pairs_by_rows(one, other)))
        # Each house and itself; kept out by one wish or two, and ahead of always; barred is like none here.
        self.assertEqual(told.count("alike"), 10 + 6 + 6 + 2)


class TooManyPairs(unittest.TestCase):
    def many(self, first_tail, second_tail, *more, deeds="drop:a flash:b"):
        """Houses of (first_tail + 12) * (second_tail + 120) pairs."""
        one = house_of(orbit("a", "drop", first_tail, 1), orbit("a", "drop", 0, 3), orbit("a", "drop", 0, 4), n=2,
                       deeds=deeds)
        other = house_of(orbit("b", "flash", second_tail, 1), orbit("b", "flash", 0, 8), orbit("b", "flash", 0, 3),
                         orbit("b", "flash", 0, 5), *more, n=2, deeds=deeds)
        return one, other

    def test_2000_are_not_too_many(self):
        one, other = self.many(4, 5)
        word, pairs = alike_paper(one, other)
        self.assertEqual((word, len(pairs), len(set(pairs))), ("alike", 16 * 125, 2000))

    def test_2001_are_too_many(self):
        one = house_of(orbit("a", "drop", 3, 1), orbit("a", "drop", 0, 4), orbit("a", "drop", 0, 5), n=2,
                       deeds="drop:a flash:b")
        other = house_of(orbit("b", "flash", 3, 1), orbit("b", "flash", 0, 7), orbit("b", "flash", 0, 3),
                         orbit("b", "flash", 0, 4), n=2, deeds="drop:a flash:b")
        self.assertEqual((len(alike_paper(one, one)[1]), len(alike_paper(other, other)[1])), (23, 87))
        self.assertEqual(23 * 87, 2001)
        for handed in ((one, other), (other, one)):
            with self.assertRaises(TooMany):
                alike_paper(*handed)

    def test_pairs_are_counted_and_not_scenes(self):
        one, other = self.many(6, 6)
        self.assertEqual(alike_paper(one, one)[0], "alike")
        self.assertEqual(alike_paper(other, other)[0], "alike")
        with self.assertRaises(TooMany):
            alike_paper(one, other)

    def test_a_row_come_to_ahead_of_them_is_told(self):
        shut = ("b", "0 in * - shut 0")
        one, other = self.many(6, 6, shut, deeds="dial:a:b drop:a flash:b")
        self.assertEqual(alike_paper(one, other), ("unlike", row_in("dial:a:b")))
        self.assertEqual(alike_paper(other, one), ("unlike", row_in("dial:a:b")))
        # Behind eight drops and a hundred flashes it would be come to too late.
        late = ("b", "0 flash * - pass 1", "1 flash * - pass 2", "2 in * - shut 0")
        one, other = self.many(6, 6, late, deeds="dial:a:b drop:a flash:b")
        self.assertEqual(alike_paper(one, other), ("unlike", row_in("flash:b flash:b dial:a:b")))


class Without(unittest.TestCase):
    SIX = house_of(ALWAYS, ("a",), BACK, ("c", "0 drop * - pass 3"), KEPTOUT, HOLD, deeds="dial:a:b turn")

    def test_of_six_wishes_each(self):
        n, wishes, deeds = self.SIX
        for k in range(6):
            told = without(self.SIX, k)
            self.assertEqual(told, (4, wishes[:k] + wishes[k + 1:], deeds))
            self.assertTrue(is_house(told))

    def test_of_one_and_of_none(self):
        one = house_of(ALWAYS, n=3, deeds="turn")
        self.assertEqual(without(one, 0), (3, (), (("turn",),)))
        self.assertEqual(without(house_of(n=2, deeds="turn"), 0), house_of(n=2, deeds="turn"))

    def test_of_two_that_are_the_same(self):
        one = house_of(ALWAYS, ALWAYS, KEPTOUT, n=3)
        self.assertEqual(without(one, 0), house_of(ALWAYS, KEPTOUT, n=3))
        self.assertEqual(without(one, 1), house_of(ALWAYS, KEPTOUT, n=3))

    def test_scenes(self):
        scene = (((0, 1, "talk", 1),), 1, (0, 1, 2, 3, 4, 5), (5, None, 3, 2, None, 0))
        for k, minds, tales in ((0, (1, 2, 3, 4, 5), (None, 3, 2, None, 0)), (1, (0, 2, 3, 4, 5), (5, 3, 2, None, 0)),
                                (3, (0, 1, 2, 4, 5), (5, None, 3, None, 0)), (5, (0, 1, 2, 3, 4), (5, None, 3, 2, None))):
            self.assertEqual(scene_without(scene, k), (scene[0], 1, minds, tales))
        self.assertEqual(scene_without(((), 0, (7,), (None,)), 0), ((), 0, (), ()))
        self.assertEqual(scene_without(((), 1, (2, 2), (3, 3)), 0), ((), 1, (2,), (3,)))

    def test_of_begun_scenes(self):
        for k in range(6):
            self.assertEqual(scene_without(begun(self.SIX), k), begun(without(self.SIX, k)))

    def test_an_idle_wish_leaves_all_rows_as_they_were(self):
        one = house_of(ALWAYS, ("b", "0 flash * - pass 1"), KEPTOUT, n=3, deeds="dial:a:b drop:a flash:b")
        self.assertEqual(idle_wishes(one), (1, 2))
        for k, size in itertools.product((1, 2), range(5)):
            for row in itertools.product(one[2], repeat=size):
                scene, events = ran(one, row)
                self.assertEqual(ran(without(one, k), row), (scene_without(scene, k), events))


class IdleWishes(unittest.TestCase):
    def test_of_no_wishes(self):
        self.assertEqual(idle_wishes(house_of(n=2, deeds="all")), ())
        self.assertEqual(idle_wishes(house_of(n=4)), ())

    def test_of_one_wish(self):
        for wish, told in ((ALWAYS, ()), (KEPTOUT, ()), (NEVER, (0,)), (("b", "tale 0 rings *,b - !"), (0,)),
                           (("b", "0 in * - pass 1"), (0,)), (BACK, ()), (THREE, ())):
            self.assertEqual(idle_wishes(house_of(wish, n=3, deeds="all")), told, wish)

    def test_without_deeds_all_are_idle(self):
        self.assertEqual(idle_wishes(house_of(ALWAYS, KEPTOUT, HOLD, n=3)), (0, 1, 2))
        self.assertEqual(idle_wishes(house_of(ALWAYS, KEPTOUT, HOLD, n=3, deeds="take:a turn")), (0, 1, 2))

    def test_one_that_another_keeps_from_being_asked(self):
        self.assertEqual(idle_wishes(house_of(ALWAYS, KEPTOUT, n=3, deeds="all")), (1,))
        self.assertEqual(idle_wishes(house_of(KEPTOUT, ALWAYS, n=3, deeds="all")), (1,))
        kept_out_a = ("b", "0 in a - shut 0")
        self.assertEqual(idle_wishes(house_of(kept_out_a, ALWAYS, n=3, deeds="all")), ())
        self.assertEqual(idle_wishes(house_of(ALWAYS, kept_out_a, n=3, deeds="all")), (1,))

    def test_of_two_that_are_the_same_each_is_idle(self):
        self.assertEqual(idle_wishes(house_of(ALWAYS, ALWAYS, n=3, deeds="all")), (0, 1))
        self.assertEqual(idle_wishes(house_of(ALWAYS, HOLD, ALWAYS, n=3, deeds="all")), (0, 2))

    def test_of_six_wishes(self):
        wishes = (("a",), ALWAYS, ("c", "0 out b - hide 0"), KEPTOUT, ("a", "0 in c - shut 0"), ("c", "0 met b - pass 1"))
        house = house_of(*wishes, n=3, deeds=DEEDS)
        self.assertEqual(idle_wishes(house), (0, 3, 4, 5))
        for k in range(6):
            self.assertEqual(parting_row(house, without(house, k), 3) is None, k in (0, 3, 4, 5))

    def test_a_wish_that_does_a_thing_only_late(self):
        deeds = "dial:a:b drop:a"
        late = ("b", *[f"{state} in * - pass {state + 1}" for state in range(7)], "7 in * - shut 7")
        self.assertEqual(idle_wishes(house_of(late, n=2, deeds=deeds)), ())
        self.assertEqual(idle_wishes(house_of(late[:8], n=2, deeds=deeds)), (0,))

    def test_too_many(self):
        minds = [orbit("a", "drop", 0, 8), orbit("b", "drop", 0, 8), orbit("a", "flash", 0, 8), orbit("b", "flash", 0, 8)]
        deeds = "drop:a drop:b flash:a flash:b"
        with self.assertRaises(TooMany):
            idle_wishes(house_of(*minds, n=2, deeds=deeds))
        self.assertEqual(idle_wishes(house_of(*minds[:3], n=2, deeds=deeds)), (0, 1, 2))
        with self.assertRaises(TooMany):
            # Without the first it parts at once, without the second there are too many pairs.
            idle_wishes(house_of(("a", "0 out * - bar 0"), *minds, n=2, deeds="dial:a:b " + deeds))


class WhatIsTold(unittest.TestCase):
    def test_kinds_and_that_nothing_is_changed(self):
        for name, house in SMALL_HOUSES.items():
            other = (house[0], house[1][::-1], house[2])
            before = repr((house, other))
            askings = [(alike_paper, (house, other)), (alike_paper, (other, house)), (idle_wishes, (house,))]
            askings += [(without, (house, k)) for k in range(len(house[1]))]
            askings += [(scene_without, (scene, k)) for scene in scenes_of(house)[:5] for k in range(len(house[1]))]
            for asking, handed in askings:
                told = asking(*handed)
                self.assertTrue(has_told_kinds(told), name)
                self.assertEqual(asking(*handed), told, name)
            self.assertEqual(repr((house, other)), before)


if __name__ == "__main__":
    unittest.main()
