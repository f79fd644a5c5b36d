"""Points 11 and 12: whose wishes are asked, which rule is taken, which acts can be done."""

import unittest

from callwishes.points import asked, begun
from callwishes.wishes import is_house


def rule(kind, act, pattern=None, tests=(), state=0, then=0):
    return (state, kind, pattern, tests, act, then)


def house_of(*wishes):
    """A house of four lines; each wish is (line, rule, rule, ..)."""
    house = (4, tuple((wish[0], wish[1:], ()) for wish in wishes), ())
    assert is_house(house)
    return house


def ask(house, point, calls=(), night=0, minds=None):
    nothing = (0,) * len(house[1])
    return asked(house, (tuple(sorted(calls)), night, nothing if minds is None else minds, nothing), point)


class Begun(unittest.TestCase):
    def test_no_calls_by_day_and_all_states_0(self):
        for many in range(7):
            house = (3, ((1, (), ()),) * many, ())
            self.assertEqual(begun(house), ((), 0, (0,) * many, (0,) * many))


class WhoIsAsked(unittest.TestCase):
    def test_no_wishes(self):
        for kind in ("out", "in", "full", "met", "long"):
            self.assertEqual(ask(house_of(), (kind, 0, 1, 0)), ((), ()))
        self.assertEqual(ask(house_of(), ("flash", 0, None, 0)), ((), ()))
        self.assertEqual(ask(house_of(), ("drop", 0, None, 0)), ((), ()))
        self.assertEqual(ask(house_of(), ("free", None, 1, 0)), ((), ()))

    def test_wishes_of_the_line_me_alone(self):
        house = house_of(*[(line, rule("in", ("shut",), then=5)) for line in range(4)])
        for me in range(4):
            minds = tuple(5 if line == me else 0 for line in range(4))
            self.assertEqual(ask(house, ("in", me, (me + 1) % 4, 0)), (((me, ("shut",)),), minds))

    def test_in_the_houses_order(self):
        shut, send = (1, rule("in", ("shut",))), (1, rule("in", ("send", 2)))
        self.assertEqual(ask(house_of(shut, send), ("in", 1, 0, 0))[0], ((0, ("shut",)),))
        self.assertEqual(ask(house_of(send, shut), ("in", 1, 0, 0))[0], ((0, ("send", 2)),))
        self.assertEqual(ask(house_of((0,), (2,), send, shut), ("in", 1, 0, 0))[0], ((2, ("send", 2)),))

    def test_of_free_those_of_all_lines_but_other(self):
        house = house_of(*[(line, rule("free", ("pass",), then=line + 1)) for line in (3, 2, 1, 0)])
        self.assertEqual(ask(house, ("free", None, 2, 0)), ((), (4, 0, 2, 1)))
        self.assertEqual(ask(house, ("free", None, 0, 0)), ((), (4, 3, 2, 0)))

    def test_of_free_each_for_its_own_line(self):
        idle = rule("free", ("ring",), tests=("idle",), then=3)
        house = house_of((0, idle), (1, idle), (2, idle))
        calls = ((0, 3, "talk", 0),)
        self.assertEqual(ask(house, ("free", None, 3, 0), calls), (((1, ("ring",)),), (0, 3, 0)))


class WhichRule(unittest.TestCase):
    def test_the_first_one_that_fits(self):
        house = house_of((1, rule("in", ("shut",), then=2), rule("in", ("send", 3), then=4)))
        self.assertEqual(ask(house, ("in", 1, 0, 0)), (((0, ("shut",)),), (2,)))

    def test_by_the_wishs_mind(self):
        house = house_of((1, rule("in", ("shut",), state=1, then=2), rule("in", ("send", 3), state=7, then=4)))
        self.assertEqual(ask(house, ("in", 1, 0, 0)), ((), (0,)))
        self.assertEqual(ask(house, ("in", 1, 0, 0), minds=(1,)), (((0, ("shut",)),), (2,)))
        self.assertEqual(ask(house, ("in", 1, 0, 0), minds=(7,)), (((0, ("send", 3)),), (4,)))

    def test_each_wish_by_its_own_mind(self):
        wish = (1, rule("in", ("pass",), state=0, then=1), rule("in", ("pass",), state=1, then=2))
        self.assertEqual(ask(house_of(wish, wish, wish), ("in", 1, 0, 0), minds=(1, 0, 5)), ((), (2, 1, 5)))

    def test_by_the_points_kind(self):
        kinds = ("out", "in", "full", "met", "long", "flash", "drop", "free")
        house = house_of((1, *[rule(kind, ("pass",), then=at) for at, kind in enumerate(kinds)]))
        for at, kind in enumerate(kinds):
            other = None if kind in ("flash", "drop") else 0
            self.assertEqual(ask(house, (kind, None if kind == "free" else 1, other, 0)), ((), (at,)), kind)

    def test_by_its_pattern(self):
        house = house_of((1, rule("in", ("shut",), (0, 2)), rule("in", ("send", 2), (3,))))
        for other, act in ((0, ("shut",)), (2, ("shut",)), (3, ("send", 2))):
            self.assertEqual(ask(house, ("in", 1, other, 0))[0], ((0, act),), other)
        self.assertEqual(ask(house_of((1, rule("in", ("shut",), (1, 2), then=3))), ("in", 1, 0, 0)), ((), (0,)))

    def test_of_free_by_its_pattern_too(self):
        house = house_of((1, rule("free", ("ring",), (0,), then=4)))
        self.assertEqual(ask(house, ("free", None, 0, 0)), (((0, ("ring",)),), (4,)))
        self.assertEqual(ask(house, ("free", None, 2, 0)), ((), (0,)))

    def test_all_its_tests_are_so(self):
        house = house_of((1, rule("in", ("shut",), tests=("night", "talk", "hid"), then=6)))
        talk = ((1, 2, "talk", 0),)
        self.assertEqual(ask(house, ("in", 1, 0, 1), talk, 1), (((0, ("shut",)),), (6,)))
        self.assertEqual(ask(house, ("in", 1, 0, 1), talk, 0), ((), (0,)))
        self.assertEqual(ask(house, ("in", 1, 0, 1), (), 1), ((), (0,)))
        self.assertEqual(ask(house, ("in", 1, 0, 0), talk, 1), ((), (0,)))

    def test_tests_are_of_the_wishs_line(self):
        house = house_of((1, rule("in", ("shut",), tests=("talk",)), rule("in", ("send", 3), tests=("mute",))))
        self.assertEqual(ask(house, ("in", 1, 0, 0), ((1, 2, "talk", 0),))[0], ((0, ("shut",)),))
        self.assertEqual(ask(house, ("in", 1, 0, 0), ((0, 2, "talk", 0),))[0], ((0, ("send", 3)),))

    def test_of_flash_and_drop_any_rule_of_the_kind(self):
        talk = ((1, 2, "talk", 0),)
        house = house_of((1, rule("flash", ("swap",), then=1), rule("drop", ("keep",), then=2)))
        self.assertEqual(ask(house, ("flash", 1, None, 0), talk), (((0, ("swap",)),), (1,)))
        self.assertEqual(ask(house, ("drop", 1, None, 0), talk), (((0, ("keep",)),), (2,)))


class GoingOn(unittest.TestCase):
    def test_a_pass_goes_on_and_is_not_told(self):
        house = house_of((1, rule("in", ("pass",), then=3)), (1, rule("in", ("shut",), then=4)))
        self.assertEqual(ask(house, ("in", 1, 0, 0)), (((1, ("shut",)),), (3, 4)))

    def test_a_wish_without_a_rule_goes_on(self):
        house = house_of((1,), (1, rule("in", ("shut",), then=4)))
        self.assertEqual(ask(house, ("in", 1, 0, 0)), (((1, ("shut",)),), (0, 4)))

    def test_a_hide_goes_on(self):
        hide = (0, rule("out", ("hide",), then=1))
        house = house_of(hide, hide, (0, rule("out", ("bar",), then=2)), hide)
        self.assertEqual(ask(house, ("out", 0, 1, 0)),
                         (((0, ("hide",)), (1, ("hide",)), (2, ("bar",))), (1, 1, 2, 0)))

    def test_an_also_goes_on(self):
        house = house_of((1, rule("in", ("also", 2), then=1)), (1, rule("in", ("also", 3), then=2)),
                         (1, rule("in", ("send", 3), then=3)), (1, rule("in", ("shut",), then=4)))
        self.assertEqual(ask(house, ("in", 1, 0, 0)),
                         (((0, ("also", 2)), (1, ("also", 3)), (2, ("send", 3))), (1, 2, 3, 0)))

    def test_each_other_act_is_the_last_one_asked(self):
        held = ((1, 2, "talk", 0), (1, 3, "hold0", 0))
        for kind, act, other, calls in (("out", ("bar",), 0, ()), ("in", ("shut",), 0, ()), ("in", ("send", 2), 0, ()),
                                        ("full", ("shut",), 0, held), ("full", ("send", 2), 0, held),
                                        ("full", ("show",), 0, held), ("long", ("shut",), 0, ()),
                                        ("long", ("send", 2), 0, ()), ("flash", ("swap",), None, held),
                                        ("flash", ("join",), None, held), ("drop", ("keep",), None, held)):
            wish = (1, rule(kind, act, then=5))
            self.assertEqual(ask(house_of(wish, wish), (kind, 1, other, 0), calls), (((0, act),), (5, 0)), (kind, act))

    def test_of_free_one_ring_alone(self):
        house = house_of((1, rule("free", ("ring",), then=5)), (2, rule("free", ("ring",), then=5)))
        self.assertEqual(ask(house, ("free", None, 0, 0)), (((0, ("ring",)),), (5, 0)))

    def test_an_act_that_cant_be_done_goes_on_but_its_mind_becomes_next(self):
        house = house_of((1, rule("full", ("show",), then=3)), (1, rule("full", ("shut",), then=4)))
        self.assertEqual(ask(house, ("full", 1, 0, 0)), (((1, ("shut",)),), (3, 4)))
        house = house_of((1, rule("drop", ("keep",), then=3)), (1, rule("drop", ("pass",), then=4)))
        self.assertEqual(ask(house, ("drop", 1, None, 0)), ((), (3, 4)))

    def test_an_act_that_cant_be_done_takes_no_later_rule_of_its_wish(self):
        house = house_of((1, rule("full", ("show",), then=3), rule("full", ("shut",), then=4)))
        self.assertEqual(ask(house, ("full", 1, 0, 0)), ((), (3,)))

    def test_at_met_there_is_no_act(self):
        house = house_of((1, rule("met", ("pass",), (2,), then=3)), (1, rule("met", ("pass",), then=4)))
        self.assertEqual(ask(house, ("met", 1, 2, 0)), ((), (3, 4)))


class WhatCanBeDone(unittest.TestCase):
    def check(self, kind, act, calls, can, me=1, other=0):
        """Whether a wish of line 1 can do the act where these calls stand."""
        house = house_of((me, rule(kind, act, then=2)))
        other = None if kind in ("flash", "drop") else other
        point = (kind, None if kind == "free" else me, other, 0)
        self.assertEqual(ask(house, point, calls), (((0, act),) if can else (), (2,)), (kind, act, calls))

    def test_bar_hide_shut_and_send_always(self):
        for calls in ((), ((0, 1, "talk", 0), (0, 2, "busy", 0), (1, 2, "hold0", 0), (1, 3, "ring", 0))):
            for kind, act in (("out", ("bar",)), ("out", ("hide",)), ("in", ("shut",)), ("in", ("send", 2)),
                              ("in", ("send", 0)), ("full", ("shut",)), ("full", ("send", 2)), ("full", ("send", 0)),
                              ("long", ("shut",)), ("long", ("send", 2)), ("long", ("send", 0))):
                self.check(kind, act, calls, True)

    def test_also_of_a_free_line(self):
        self.check("in", ("also", 2), (), True)
        self.check("in", ("also", 2), ((0, 3, "hold0", 0), (1, 3, "talk", 0)), True)

    def test_also_of_a_used_line(self):
        for call in ((2, 3, "busy", 0), (3, 2, "ring", 0), (3, 2, "talk", 0), (2, 3, "back", 0), (1, 2, "hold1", 0)):
            self.check("in", ("also", 2), (call,), False)

    def test_also_of_a_line_that_is_called_but_in_no_call(self):
        for how in ("busy", "shut", "back"):
            self.check("in", ("also", 2), ((3, 2, how, 0),), True)
            self.check("in", ("also", 2), ((1, 2, how, 0),), True)
            # Here the call that stands is one between both.
            self.check("in", ("also", 2), ((0, 2, how, 0),), False)

    def test_also_of_the_other(self):
        self.check("in", ("also", 0), (), False)
        self.check("in", ("also", 2), (), False, other=2)

    def test_also_twice_of_one_line(self):
        house = house_of((1, rule("in", ("also", 2), then=1)), (1, rule("in", ("also", 2), then=2)),
                         (1, rule("in", ("also", 3), then=3)), (1, rule("in", ("also", 2), then=4)))
        self.assertEqual(ask(house, ("in", 1, 0, 0)), (((0, ("also", 2)), (2, ("also", 3))), (1, 2, 3, 4)))

    def test_also_behind_one_that_could_not_be_done(self):
        house = house_of((1, rule("in", ("also", 2), then=1)), (1, rule("in", ("also", 2), then=2)))
        self.assertEqual(ask(house, ("in", 1, 0, 0), ((2, 3, "talk", 0),)), ((), (1, 2)))

    def test_show(self):
        self.check("full", ("show",), ((1, 2, "talk", 0),), True)
        self.check("full", ("show",), ((2, 1, "talk", 0),), True)
        self.check("full", ("show",), (), False)
        self.check("full", ("show",), ((1, 2, "hold0", 0),), False)
        self.check("full", ("show",), ((2, 1, "ring", 0),), False)
        self.check("full", ("show",), ((1, 2, "talk", 0), (3, 1, "show", 0)), False)
        self.check("full", ("show",), ((3, 1, "show", 0),), False)
        self.check("full", ("show",), ((1, 2, "talk", 0), (3, 2, "show", 0)), True)
        self.check("full", ("show",), ((1, 2, "talk", 0), (1, 3, "show", 0)), True)
        self.check("full", ("show",), ((2, 3, "talk", 0), (2, 1, "ring", 0)), False)

    def test_ring(self):
        self.check("free", ("ring",), (), True)
        self.check("free", ("ring",), ((2, 3, "talk", 0),), True)
        self.check("free", ("ring",), ((2, 1, "busy", 0), (3, 1, "shut", 0)), True)
        self.check("free", ("ring",), ((1, 2, "busy", 0),), False)
        self.check("free", ("ring",), ((1, 2, "hold0", 0),), False)
        self.check("free", ("ring",), ((2, 1, "ring", 0),), False)
        self.check("free", ("ring",), ((1, 2, "back", 0),), False)

    def test_swap_with_a_talk(self):
        self.check("flash", ("swap",), ((1, 2, "talk", 0),), True)
        self.check("flash", ("swap",), ((2, 1, "talk", 0), (3, 1, "show", 0)), True)
        self.check("flash", ("swap",), ((0, 1, "ring", 0), (1, 2, "talk", 0)), True)

    def test_swap_with_a_held_call_and_free_hands(self):
        self.check("flash", ("swap",), ((1, 2, "hold0", 0),), True)
        self.check("flash", ("swap",), ((2, 1, "hold1", 0),), True)
        self.check("flash", ("swap",), ((1, 2, "hold0", 0), (3, 1, "busy", 0)), True)

    def test_swap_without(self):
        self.check("flash", ("swap",), (), False)
        self.check("flash", ("swap",), ((2, 3, "talk", 0),), False)
        self.check("flash", ("swap",), ((1, 2, "hold1", 0),), False)
        self.check("flash", ("swap",), ((1, 2, "ring", 0),), False)
        self.check("flash", ("swap",), ((3, 1, "show", 0),), False)
        for call in ((1, 3, "busy", 0), (1, 3, "shut", 0), (1, 3, "ring", 0), (3, 1, "ring", 0), (3, 1, "show", 0),
                     (1, 3, "back", 0), (1, 3, "hold1", 0)):
            self.check("flash", ("swap",), ((1, 2, "hold0", 0), call), False)

    def test_join(self):
        talk = (1, 2, "talk", 0)
        self.check("flash", ("join",), (talk, (1, 3, "hold0", 0)), True)
        self.check("flash", ("join",), (talk, (3, 1, "hold1", 0)), True)
        self.check("flash", ("join",), (talk,), False)
        self.check("flash", ("join",), ((1, 3, "hold0", 0),), False)
        self.check("flash", ("join",), (talk, (1, 3, "hold1", 0)), False)
        self.check("flash", ("join",), (talk, (3, 1, "show", 0)), False)
        self.check("flash", ("join",), (), False)

    def test_join_of_a_held_call_whose_other_has_a_talk(self):
        calls = ((1, 2, "talk", 0), (1, 3, "hold0", 0), (0, 3, "talk", 0))
        self.check("flash", ("join",), calls, False)
        calls = ((0, 1, "hold1", 0), (1, 2, "hold0", 0), (2, 3, "talk", 0), (1, 3, "talk", 0))
        self.check("flash", ("join",), calls, True)

    def test_keep(self):
        self.check("drop", ("keep",), ((1, 2, "talk", 0),), True)
        self.check("drop", ("keep",), ((2, 1, "talk", 0), (1, 3, "hold0", 0)), True)
        self.check("drop", ("keep",), (), False)
        self.check("drop", ("keep",), ((1, 3, "hold0", 0),), False)
        self.check("drop", ("keep",), ((2, 3, "talk", 0), (1, 2, "ring", 0)), False)

    def test_acts_of_free_are_of_the_wishs_own_line(self):
        house = house_of((1, rule("free", ("ring",), then=1)), (2, rule("free", ("ring",), then=2)),
                         (3, rule("free", ("ring",), then=3)))
        self.assertEqual(ask(house, ("free", None, 0, 0), ((1, 3, "hold0", 0),)), (((1, ("ring",)),), (1, 2, 0)))


if __name__ == "__main__":
    unittest.main()
