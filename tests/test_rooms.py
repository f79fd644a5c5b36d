"""Points 9 and 10, with 5 for the tests: what calls are to a line."""

import unittest

from callwishes.rooms import (
    between, calls_of, has_free_hands, holds_of, is_free, is_so, rings_at, shown_to, talks_of,
)

HOWS = ("ring", "show", "talk", "hold0", "hold1", "busy", "shut", "back")
# One call of each line with each other one, lines 0 to 3, in many ways.
CALLS = ((0, 1, "hold0", 0), (0, 3, "talk", 1), (1, 3, "ring", 0), (2, 0, "show", 1), (2, 1, "busy", 0),
         (3, 2, "hold1", 0))


class OneCall(unittest.TestCase):
    def test_its_from_is_in_each_call(self):
        for how in HOWS:
            call = (2, 1, how, 0)
            self.assertEqual(calls_of((call,), 2), (call,))
            self.assertIs(is_free((call,), 2), False)

    def test_its_to_is_in_those_that_ring_are_shown_talk_or_are_held(self):
        for how in HOWS:
            call = (2, 1, how, 1)
            is_in = how in ("ring", "show", "talk", "hold0", "hold1")
            self.assertEqual(calls_of((call,), 1), (call,) if is_in else (), how)
            self.assertIs(is_free((call,), 1), not is_in, how)

    def test_others_are_not_in_it(self):
        for how in HOWS:
            calls = ((2, 1, how, 0),)
            for line in (0, 3):
                self.assertEqual(calls_of(calls, line), ())
                self.assertIs(is_free(calls, line), True)
                self.assertEqual(talks_of(calls, line), ())
                self.assertEqual(holds_of(calls, line), ())
                self.assertIsNone(shown_to(calls, line))
                self.assertIsNone(rings_at(calls, line))
                self.assertIs(has_free_hands(calls, line), True)

    def test_a_talk_is_of_both(self):
        for how in HOWS:
            call = (2, 1, how, 0)
            for line in (1, 2):
                self.assertEqual(talks_of((call,), line), (call,) if how == "talk" else (), how)

    def test_hold0_is_held_by_its_from_and_hold1_by_its_to(self):
        for how in HOWS:
            call = (2, 1, how, 0)
            self.assertEqual(holds_of((call,), 2), (call,) if how == "hold0" else (), how)
            self.assertEqual(holds_of((call,), 1), (call,) if how == "hold1" else (), how)

    def test_a_shown_call_is_shown_to_its_to(self):
        for how in HOWS:
            call = (2, 1, how, 0)
            self.assertEqual(shown_to((call,), 1), call if how == "show" else None, how)
            self.assertIsNone(shown_to((call,), 2), how)

    def test_a_ring_rings_at_its_to_and_a_back_at_its_from(self):
        for how in HOWS:
            call = (2, 1, how, 0)
            self.assertEqual(rings_at((call,), 1), call if how == "ring" else None, how)
            self.assertEqual(rings_at((call,), 2), call if how == "back" else None, how)

    def test_hands_are_free_where_each_call_is_held(self):
        for how in HOWS:
            calls = ((2, 1, how, 0),)
            self.assertIs(has_free_hands(calls, 2), how == "hold0", how)
            self.assertIs(has_free_hands(calls, 1), how in ("hold1", "busy", "shut", "back"), how)

    def test_it_is_between_its_lines_either_way(self):
        for how in HOWS:
            call = (2, 1, how, 0)
            self.assertEqual(between((call,), 2, 1), call)
            self.assertEqual(between((call,), 1, 2), call)
            self.assertIsNone(between((call,), 2, 0))
            self.assertIsNone(between((call,), 3, 1))


class ManyCalls(unittest.TestCase):
    def test_calls_of(self):
        self.assertEqual(calls_of(CALLS, 0), (CALLS[0], CALLS[1], CALLS[3]))
        self.assertEqual(calls_of(CALLS, 1), (CALLS[0], CALLS[2]))
        self.assertEqual(calls_of(CALLS, 2), (CALLS[3], CALLS[4], CALLS[5]))
        self.assertEqual(calls_of(CALLS, 3), (CALLS[1], CALLS[2], CALLS[5]))

    def test_several_talks_and_holds_are_told_in_order(self):
        calls = ((0, 1, "talk", 0), (0, 2, "hold0", 0), (3, 0, "talk", 1))
        self.assertEqual(talks_of(calls, 0), (calls[0], calls[2]))
        calls = ((0, 1, "hold0", 0), (0, 2, "hold1", 0), (3, 0, "hold1", 1))
        self.assertEqual(holds_of(calls, 0), (calls[0], calls[2]))

    def test_the_first_one_is_told_of_several(self):
        calls = ((0, 3, "show", 0), (1, 3, "show", 1), (2, 3, "show", 0))
        self.assertEqual(shown_to(calls, 3), calls[0])
        calls = ((0, 2, "show", 0), (1, 2, "ring", 1), (2, 3, "back", 0))
        self.assertEqual(rings_at(calls, 2), calls[1])
        calls = ((1, 0, "back", 0), (2, 1, "ring", 1), (3, 1, "ring", 0))
        self.assertEqual(rings_at(calls, 1), calls[0])

    def test_hands_are_not_free_for_one_call_not_held(self):
        held = ((0, 1, "hold0", 0), (3, 0, "hold1", 0))
        self.assertIs(has_free_hands(held, 0), True)
        for call in ((0, 2, "busy", 0), (0, 2, "shut", 0), (0, 2, "ring", 0), (0, 2, "back", 0), (0, 2, "hold1", 0)):
            self.assertIs(has_free_hands((held[0], call, held[1]), 0), False, call)
        for call in ((2, 0, "ring", 0), (2, 0, "show", 0), (2, 0, "talk", 0), (2, 0, "hold0", 0)):
            self.assertIs(has_free_hands((held[0], call, held[1]), 0), False, call)
        for call in ((2, 0, "busy", 0), (2, 0, "shut", 0), (2, 0, "back", 0), (2, 3, "talk", 0)):
            self.assertIs(has_free_hands((held[0], call, held[1]), 0), True, call)

    def test_no_calls(self):
        self.assertEqual(calls_of((), 0), ())
        self.assertEqual(talks_of((), 0), ())
        self.assertEqual(holds_of((), 0), ())
        self.assertIsNone(shown_to((), 0))
        self.assertIsNone(rings_at((), 0))
        self.assertIsNone(between((), 0, 1))
        self.assertIs(has_free_hands((), 0), True)
        self.assertIs(is_free((), 0), True)


class Tests(unittest.TestCase):
    def check(self, calls, night, me, hid, so):
        """Just the tests named in so hold, of each pair one."""
        pairs = (("night", "day"), ("talk", "mute"), ("held", "bare"), ("shown", "clear"), ("idle", "used"),
                 ("hid", "named"))
        for test in (test for pair in pairs for test in pair):
            self.assertIs(is_so(calls, night, me, hid, test), test in so.split(), (calls, me, test))

    def test_no_calls(self):
        self.check((), 0, 0, 0, "day mute bare clear idle named")
        self.check((), 1, 3, 0, "night mute bare clear idle named")
        self.check((), 1, 3, 1, "night mute bare clear idle hid")
        self.check((), 0, 3, 1, "day mute bare clear idle hid")

    def test_a_talk(self):
        self.check(((0, 1, "talk", 1),), 0, 0, 0, "day talk bare clear used named")
        self.check(((0, 1, "talk", 1),), 0, 1, 0, "day talk bare clear used named")
        self.check(((0, 1, "talk", 1),), 0, 2, 0, "day mute bare clear idle named")

    def test_a_held_call(self):
        self.check(((0, 1, "hold0", 0),), 0, 0, 0, "day mute held clear used named")
        self.check(((0, 1, "hold0", 0),), 0, 1, 0, "day mute bare clear used named")
        self.check(((0, 1, "hold1", 0),), 0, 0, 0, "day mute bare clear used named")
        self.check(((0, 1, "hold1", 0),), 0, 1, 0, "day mute held clear used named")

    def test_a_shown_call(self):
        self.check(((0, 1, "show", 0),), 0, 0, 0, "day mute bare clear used named")
        self.check(((0, 1, "show", 0),), 0, 1, 0, "day mute bare shown used named")

    def test_calls_in_which_the_to_is_not(self):
        for how in ("busy", "shut", "back"):
            self.check(((0, 1, how, 0),), 0, 0, 0, "day mute bare clear used named")
            self.check(((0, 1, how, 0),), 0, 1, 0, "day mute bare clear idle named")

    def test_a_ring(self):
        self.check(((0, 1, "ring", 0),), 0, 0, 0, "day mute bare clear used named")
        self.check(((0, 1, "ring", 0),), 0, 1, 0, "day mute bare clear used named")

    def test_many_calls(self):
        self.check(CALLS, 1, 0, 1, "night talk held shown used hid")
        self.check(CALLS, 0, 1, 0, "day mute bare clear used named")
        self.check(CALLS, 0, 2, 0, "day mute held clear used named")
        self.check(CALLS, 0, 3, 0, "day talk bare clear used named")


if __name__ == "__main__":
    unittest.main()
