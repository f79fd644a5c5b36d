"""Points 2 and 19: rows of deeds, broken tales, and the kinds of what is told."""

import itertools
import unittest

from callwishes.deeds import stepped
from callwishes.points import asked, begun
from callwishes.runs import broken, ran
from callwishes.wishes import all_deeds, is_house

SENT_RULE = (0, "in", None, (), ("send", 2), 0)
# The calls of line 1 go to line 2, always; its tale breaks where one doesn't.
ALWAYS = (1, (SENT_RULE,), (
    (0, "comes", (None, (1,)), (), 1), (1, "sent", (None, (1,), (2,)), (), 0), (1, "done", (), (), None)))
# The calls of line 1 from line 0 are kept out.
KEPT_OUT = (1, ((0, "in", (0,), (), ("shut",), 0),), (
    (0, "rings", ((0,), (1,)), (), None), (0, "shows", ((0,), (1,)), (), None)))


def house_of(*wishes):
    house = (3, wishes, all_deeds(3))
    assert is_house(house)
    return house


class Ran(unittest.TestCase):
    def test_no_deeds(self):
        for house in (house_of(), house_of(ALWAYS), house_of(ALWAYS, KEPT_OUT)):
            self.assertEqual(ran(house, ()), (begun(house), ()))

    def test_a_call_that_is_sent_taken_and_dropped(self):
        scene, events = ran(house_of(ALWAYS), (("dial", 0, 1), ("take", 2), ("drop", 0)))
        self.assertEqual(scene, ((), 0, (0,), (0,)))
        self.assertEqual(events, (
            (("dial", (0, 1), 0), ("comes", (0, 1), 0), ("sent", (0, 1, 2), 0), ("comes", (0, 2), 0),
             ("rings", (0, 2), 0), ("done", (), 0)),
            (("take", (2,), 0), ("talks", (0, 2), 0), ("done", (), 0)),
            (("drop", (0,), 0), ("ends", (0, 2), 0), ("frees", (0,), 0), ("frees", (2,), 0), ("done", (), 0))))

    def test_each_deed_goes_on_from_the_scene_ahead(self):
        house = house_of(ALWAYS, KEPT_OUT)
        row = (("turn",), ("dial", 2, 1), ("dial", 0, 1), ("wait",), ("drop", 0), ("take", 0), ("turn",))
        scene, told = begun(house), []
        for deed in row:
            scene, events = stepped(house, scene, deed)
            told.append(events)
        self.assertEqual(ran(house, row), (scene, tuple(told)))

    def test_minds_and_nights_go_on(self):
        back = (0, ((0, "met", (1,), (), ("pass",), 1), (1, "free", (1,), ("idle",), ("ring",), 0)), ())
        house = house_of(back)
        row = (("turn",), ("dial", 1, 2), ("dial", 0, 1), ("drop", 0), ("drop", 1), ("take", 0), ("take", 1))
        self.assertEqual(ran(house, row[:3])[0], (((0, 1, "busy", 0), (1, 2, "ring", 0)), 1, (1,), (0,)))
        self.assertEqual(ran(house, row[:5])[0], (((0, 1, "back", 0),), 1, (0,), (0,)))
        self.assertEqual(ran(house, row)[0], (((0, 1, "talk", 0),), 1, (0,), (0,)))


class Broken(unittest.TestCase):
    def test_the_rising_tuple_of_those_whose_tale_is_broken(self):
        for states in itertools.product((0, 7, None), repeat=3):
            wishes = tuple(at for at in range(3) if states[at] is None)
            self.assertEqual(broken(((), 0, (0, 0, 0), states)), wishes)
        self.assertEqual(broken(((), 0, (), ())), ())

    def test_a_mind_is_never_broken(self):
        self.assertEqual(broken((((0, 1, "ring", 0),), 1, (3, 0), (0, None))), (1,))

    def test_a_wish_alone_keeps_its_tale(self):
        deeds = (("dial", 0, 1), ("dial", 2, 1), ("take", 1), ("drop", 0), ("wait",))
        for wish in (ALWAYS, KEPT_OUT):
            for row in itertools.product(deeds, repeat=3):
                self.assertEqual(broken(ran(house_of(wish), row)[0]), ())

    def test_two_wishes_that_quarrel(self):
        shut_first = ran(house_of(KEPT_OUT, ALWAYS), (("dial", 0, 1),))
        self.assertEqual(broken(shut_first[0]), (1,))
        sent_first = ran(house_of(ALWAYS, KEPT_OUT), (("dial", 0, 1),))
        self.assertEqual(broken(sent_first[0]), ())

    def test_a_broken_tale_stays_broken(self):
        scene, events = ran(house_of(KEPT_OUT, ALWAYS), (("dial", 0, 1), ("drop", 0), ("dial", 2, 1), ("wait",)))
        self.assertEqual(broken(scene), (1,))


class WhatIsTold(unittest.TestCase):
    """Tuples, whole numbers, texts and None; nothing handed in changed; the same told again."""

    HOUSE = house_of(
        (0, ((0, "out", None, (), ("hide",), 1), (1, "out", None, (), ("pass",), 0),
             (0, "flash", None, ("talk",), ("swap",), 0), (1, "flash", None, (), ("join",), 1)), ()),
        (1, ((0, "in", None, ("idle",), ("also", 2), 0), (0, "full", None, (), ("show",), 0),
             (0, "drop", None, (), ("keep",), 0)), ((0, "shows", (None, (1,)), (), None),)),
        (2, ((0, "met", None, (), ("pass",), 1), (1, "free", None, (), ("ring",), 0),
             (0, "long", None, (), ("send", 1), 0)), ((0, "waits", (None, None), ("used",), 1),)))

    def check_kinds(self, told):
        if type(told) is tuple:
            for part in told:
                self.check_kinds(part)
        else:
            self.assertIn(type(told), (int, str, type(None)), told)

    def test_of_rows_of_deeds(self):
        deeds = all_deeds(3)
        for at in range(len(deeds) ** 2):
            row = (deeds[at % 6], deeds[at // 17], deeds[at % 17], deeds[(at * 5 + 3) % 17], deeds[(at * 7 + 1) % 17])
            before = repr((self.HOUSE, row))
            told = ran(self.HOUSE, row)
            self.check_kinds(told)
            self.check_kinds(broken(told[0]))
            self.assertEqual(ran(self.HOUSE, row), told)
            self.assertEqual(repr((self.HOUSE, row)), before)

    def test_of_points(self):
        scene = (((0, 1, "talk", 1), (2, 0, "hold1", 0)), 1, (0, 0, 1), (None, 0, 1))
        for point in (("out", 0, 1, 0), ("in", 1, 0, 1), ("full", 1, 2, 0), ("met", 2, 0, 0), ("long", 2, 0, 1),
                      ("flash", 0, None, 0), ("drop", 1, None, 0), ("free", None, 0, 0)):
            before = repr((self.HOUSE, scene, point))
            told = asked(self.HOUSE, scene, point)
            self.check_kinds(told)
            self.assertEqual(asked(self.HOUSE, scene, point), told)
            self.assertEqual(repr((self.HOUSE, scene, point)), before)

    def test_of_houses(self):
        self.check_kinds(begun(self.HOUSE))
        for n in (2, 3, 4):
            self.check_kinds(all_deeds(n))
            self.assertEqual(all_deeds(n), all_deeds(n))


if __name__ == "__main__":
    unittest.main()
