"""Points 6, 7, 8, with 15 for deeds and 18 for events: wishes, houses, deeds."""

import itertools
import unittest

from callwishes.wishes import all_deeds, is_house, is_wish
from helper import Thorny, found, nested, places_in, put

ACTS = {
    "out": ("bar", "hide"),
    "in": ("shut", "send", "also"),
    "full": ("shut", "send", "show"),
    "met": (),
    "long": ("shut", "send"),
    "flash": ("swap", "join"),
    "drop": ("keep",),
    "free": ("ring",),
}
ACT_WORDS = ("bar", "hide", "shut", "send", "also", "show", "swap", "join", "keep", "ring", "pass")
EVENT_LINES = {
    "dial": 2, "comes": 2, "rings": 2, "shows": 2, "busy": 2, "shut": 2, "talks": 2, "ends": 2, "waits": 2,
    "holds": 2, "backs": 2, "take": 1, "drop": 1, "flash": 1, "joins": 1, "frees": 1,
    "wait": 0, "turn": 0, "night": 0, "day": 0, "done": 0, "sent": 3,
}
ALL_TESTS = (
    "night", "day", "talk", "mute", "held", "bare",
    "shown", "clear", "idle", "used", "hid", "named",
)

RULE = (0, "in", (1,), ("night", "idle"), ("send", 2), 7)
TALE_RULE = (7, "sent", ((1, 2), (0,), None), ("talk",), 3)
BREAKING_RULE = (1, "done", (), (), None)
WISH = (0, (RULE, (3, "flash", None, (), ("swap",), 0)), (TALE_RULE, BREAKING_RULE))
DEEDS = (("dial", 0, 1), ("take", 2), ("wait",), ("turn",))
HOUSE = (3, (WISH, (2, (), ())), DEEDS)


# None of these can stand anywhere in a house.
ODD_THINGS = [
    True, False, -1, 8, 99, 10 ** 50, 1.0, float("nan"), "", "x", "In", b"in", [], [0], {}, {0: 1}, set(), {0},
    frozenset(), object(), Thorny(), Thorny, len, iter(()), Ellipsis, ("x",), (True,), (Thorny(),), ([],), ({},),
    nested(tuple, 30), nested(list, 30), (0, 0), (1, 0), (1.0,), ("night", "night"), ("day", "night"),
]


def with_rule(rule, n=4, me=0):
    return is_wish((me, (rule,), ()), n)


def with_tale_rule(rule, n=4, me=0):
    return is_wish((me, (), (rule,)), n)


class Rules(unittest.TestCase):
    def test_each_kind_takes_its_acts_and_pass(self):
        for kind, word in itertools.product(ACTS, ACT_WORDS):
            act = (word, 1) if word in ("send", "also") else (word,)
            is_right = word == "pass" or word in ACTS[kind]
            self.assertIs(with_rule((0, kind, None, (), act, 0)), is_right, (kind, word))

    def test_send_and_also_alone_have_a_line(self):
        for kind in ACTS:
            for word in ACTS[kind] + ("pass",):
                has_line = word in ("send", "also")
                for act, is_right in (((word, 1), has_line), ((word,), not has_line), ((word, 1, 1), False),
                                      ((word, "b"), False), ((word, None), False), ((word, True), False),
                                      ((word, (1,)), False), ([word, 1], False), ([word], False), (word, False)):
                    self.assertIs(with_rule((0, kind, None, (), act, 0)), is_right, (kind, act))

    def test_things_that_are_no_acts(self):
        for act in ((), None, 0, True, "pass", b"pass", ["pass"], {"pass"}, {"pass": 0}, (("pass",),), (None,), (0,),
                    ("",), ("Pass",), ("pass", "pass"), (Thorny(),), Thorny(), ("send", Thorny())):
            for kind in ACTS:
                self.assertIs(with_rule((0, kind, None, (), act, 0)), False)

    def test_no_send_or_also_goes_to_me_or_out_of_the_house(self):
        for n, me, line, word in itertools.product((2, 3, 4), range(4), range(-1, 6), ("send", "also")):
            is_right = me < n and 0 <= line < n and line != me
            self.assertIs(with_rule((0, "in", None, (), (word, line), 0), n, me), is_right, (n, me, line))

    def test_states_are_from_0_to_7(self):
        for state in range(-1, 10):
            self.assertIs(with_rule((state, "in", None, (), ("pass",), 0)), 0 <= state <= 7, state)
            self.assertIs(with_rule((0, "in", None, (), ("pass",), state)), 0 <= state <= 7, state)

    def test_a_rules_next_is_never_none(self):
        self.assertIs(with_rule((0, "in", None, (), ("pass",), None)), False)
        self.assertIs(with_rule((None, "in", None, (), ("pass",), 0)), False)

    def test_of_flash_and_drop_the_pattern_is_none(self):
        for kind in ACTS:
            for pattern in ((0,), (1,), (0, 1, 2, 3)):
                is_right = kind not in ("flash", "drop")
                self.assertIs(with_rule((0, kind, pattern, (), ("pass",), 0)), is_right, kind)
            self.assertIs(with_rule((0, kind, None, (), ("pass",), 0)), True)

    def test_patterns_and_tests_are_such(self):
        for pattern, n, is_right in (((0, 3), 4, True), ((0, 3), 3, False), ((), 4, False), ((1, 0), 4, False),
                                     ("*", 4, False), ([0], 4, False), ((True,), 4, False)):
            self.assertIs(with_rule((0, "in", pattern, (), ("pass",), 0), n), is_right, pattern)
        for tests, is_right in (((), True), (ALL_TESTS, True), (("day", "night"), False), (("hid", "hid"), False),
                                ("night", False), (["night"], False), (None, False), (("nights",), False)):
            self.assertIs(with_rule((0, "in", None, tests, ("pass",), 0)), is_right, tests)

    def test_kinds_are_such(self):
        for kind in ("", "IN", "take", "wait", "rings", None, 0, True, b"in", ["in"], ("in",), {}, set(), Thorny()):
            self.assertIs(with_rule((0, kind, None, (), ("pass",), 0)), False)

    def test_a_part_more_or_less(self):
        rule = (0, "in", None, (), ("pass",), 0)
        self.assertIs(with_rule(rule), True)
        for wrong in (rule + (0,), rule[:5], rule[1:], (), list(rule), (rule,), None, "rule"):
            self.assertIs(with_rule(wrong), False, wrong)


class TaleRules(unittest.TestCase):
    def test_each_word_has_so_many_patterns(self):
        for word, many in itertools.product(EVENT_LINES, range(5)):
            is_right = many == EVENT_LINES[word]
            self.assertIs(with_tale_rule((0, word, (None,) * many, (), 0)), is_right, (word, many))
            self.assertIs(with_tale_rule((0, word, ((1, 2),) * many, (), 0)), is_right, (word, many))

    def test_words_that_are_no_events(self):
        for word in ("", "ring", "show", "talk", "hold", "back", "out", "in", "Dial", None, 0, True, b"dial", ["wait"],
                     ("wait",), {}, set(), Thorny()):
            for many in range(4):
                self.assertIs(with_tale_rule((0, word, (None,) * many, (), 0)), False)

    def test_states_are_from_0_to_7_and_next_may_be_none(self):
        for state in range(-1, 10):
            self.assertIs(with_tale_rule((state, "done", (), (), 0)), 0 <= state <= 7, state)
            self.assertIs(with_tale_rule((0, "done", (), (), state)), 0 <= state <= 7, state)
        self.assertIs(with_tale_rule((0, "done", (), (), None)), True)
        self.assertIs(with_tale_rule((None, "done", (), (), 0)), False)

    def test_patterns_and_tests_are_such(self):
        for patterns, n, is_right in ((((3,), None), 4, True), (((3,), None), 3, False), (((), None), 4, False),
                                      (((1, 0), None), 4, False), ([None, None], 4, False), (None, 4, False),
                                      ("**", 4, False), (((0,), (True,)), 4, False), (((0,), 1), 4, False)):
            self.assertIs(with_tale_rule((0, "rings", patterns, (), 0), n), is_right, patterns)
        for tests, is_right in (((), True), (ALL_TESTS, True), (("day", "night"), False), (["hid"], False),
                                (None, False)):
            self.assertIs(with_tale_rule((0, "done", (), tests, 0)), is_right, tests)

    def test_a_part_more_or_less(self):
        rule = (0, "done", (), (), 0)
        for wrong in (rule + (0,), rule[:4], rule[1:], (), list(rule), (rule,), None, "rule"):
            self.assertIs(with_tale_rule(wrong), False, wrong)


class Wishes(unittest.TestCase):
    def test_a_wish(self):
        self.assertIs(is_wish(WISH, 3), True)
        self.assertIs(is_wish(WISH, 4), True)
        self.assertIs(is_wish(WISH, 2), False)

    def test_me_is_a_line_of_the_house(self):
        for n, me in itertools.product((2, 3, 4), range(-1, 6)):
            self.assertIs(is_wish((me, (), ()), n), 0 <= me < n, (me, n))
        for me in (True, False, None, "a", 0.0, (0,), [0]):
            self.assertIs(is_wish((me, (), ()), 4), False, me)

    def test_at_most_12_rules_and_16_of_the_tale(self):
        for many in (0, 1, 11, 12, 13, 17, 40):
            self.assertIs(is_wish((0, (RULE,) * many, ()), 3), many <= 12, many)
        for many in (0, 1, 15, 16, 17, 40):
            self.assertIs(is_wish((0, (), (TALE_RULE,) * many), 3), many <= 16, many)
        self.assertIs(is_wish((0, (RULE,) * 12, (TALE_RULE,) * 16), 3), True)

    def test_each_rule_counts(self):
        for at in range(4):
            rules, tale = [RULE] * 4, [TALE_RULE] * 4
            rules[at] = TALE_RULE
            tale[at] = RULE
            self.assertIs(is_wish((0, tuple(rules), ()), 3), False)
            self.assertIs(is_wish((0, (), tuple(tale)), 3), False)

    def test_a_part_more_or_less(self):
        for wrong in (WISH + ((),), WISH[:2], WISH[1:], (), (0,), list(WISH), (WISH,), None, "wish", {}, {0}):
            self.assertIs(is_wish(wrong, 3), False, wrong)

    def test_lists_in_tuples_places(self):
        me, rules, tale = WISH
        for wrong in ((me, list(rules), tale), (me, rules, list(tale)), (me, [], ()), (me, (), []), (me, None, ()),
                      (me, (), None), (me, "", ()), (me, (), "")):
            self.assertIs(is_wish(wrong, 3), False, wrong)

    def test_odd_things_in_every_place(self):
        for place in places_in(WISH):
            for at, thing in enumerate(ODD_THINGS):
                self.assertIs(is_wish(put(WISH, place, thing), 3), False, (place, at))


class Deeds(unittest.TestCase):
    def test_all_deeds_of_two_lines(self):
        self.assertEqual(all_deeds(2), (
            ("dial", 0, 1), ("dial", 1, 0), ("take", 0), ("take", 1), ("drop", 0), ("drop", 1),
            ("flash", 0), ("flash", 1), ("wait",), ("turn",)))

    def test_all_deeds_of_three_lines(self):
        self.assertEqual(all_deeds(3), (
            ("dial", 0, 1), ("dial", 0, 2), ("dial", 1, 0), ("dial", 1, 2), ("dial", 2, 0), ("dial", 2, 1),
            ("take", 0), ("take", 1), ("take", 2), ("drop", 0), ("drop", 1), ("drop", 2),
            ("flash", 0), ("flash", 1), ("flash", 2), ("wait",), ("turn",)))

    def test_all_deeds_of_four_lines(self):
        deeds = all_deeds(4)
        self.assertEqual(len(deeds), 26)
        self.assertEqual(deeds[:12], tuple(("dial",) + pair for pair in itertools.permutations(range(4), 2)))
        self.assertEqual(deeds[12:24], tuple((word, a) for word in ("take", "drop", "flash") for a in range(4)))
        self.assertEqual(deeds[24:], (("wait",), ("turn",)))


class Houses(unittest.TestCase):
    def test_a_house(self):
        self.assertIs(is_house(HOUSE), True)

    def test_from_2_to_4_lines(self):
        for n in range(-1, 8):
            self.assertIs(is_house((n, (), ())), 2 <= n <= 4, n)
        for n in (True, False, None, "3", 3.0, (3,), [3]):
            self.assertIs(is_house((n, (), ())), False, n)

    def test_at_most_6_wishes(self):
        for many in range(9):
            self.assertIs(is_house((3, (WISH,) * many, ())), many <= 6, many)

    def test_each_wish_is_of_the_house(self):
        for n, me in itertools.product((2, 3, 4), range(4)):
            self.assertIs(is_house((n, ((0, (), ()), (me, (), ())), ())), me < n, (n, me))
        self.assertIs(is_house((2, (WISH,), ())), False)

    def test_no_deeds_and_all_deeds(self):
        for n in (2, 3, 4):
            self.assertIs(is_house((n, (), ())), True)
            self.assertIs(is_house((n, (), all_deeds(n))), True)

    def test_one_deed_and_all_but_one(self):
        for n in (2, 3, 4):
            deeds = all_deeds(n)
            for at, deed in enumerate(deeds):
                self.assertIs(is_house((n, (), (deed,))), True)
                self.assertIs(is_house((n, (), deeds[:at] + deeds[at + 1:])), True)

    def test_two_deeds_just_in_their_order(self):
        for n in (2, 3, 4):
            for (one, deed), (other, next_deed) in itertools.product(enumerate(all_deeds(n)), repeat=2):
                self.assertIs(is_house((n, (), (deed, next_deed))), one < other, (deed, next_deed))

    def test_deeds_of_lines_that_the_house_has_not(self):
        for n in (2, 3):
            for deed in all_deeds(4):
                self.assertIs(is_house((n, (), (deed,))), deed in all_deeds(n), deed)

    def test_things_that_are_no_deeds(self):
        wrong = (("dial", 0, 0), ("dial", 0), ("dial",), ("dial", 0, 1, 2), ("dial", (0, 1)), ("take",), ("take", 0, 1),
                 ("take", True), ("take", False), ("dial", 0, True), ("dial", False, 1), ("take", None), ("take", "a"),
                 ("wait", 0), ("wait", ()), ("turn", 0), ("night",), ("waits",), "wait", "w", ["wait"], ["take", 0],
                 (), (0,), (None,), 0, None, True, b"wait", {}, {"wait"}, Thorny(), (Thorny(),), ("take", Thorny()),
                 (Thorny(), 0), ("take", 0.0), ("take", -1), (b"wait",), (["wait"],))
        for at, thing in enumerate(wrong):
            self.assertIs(is_house((3, (), (thing,))), False, at)
            self.assertIs(is_house((3, (), (("dial", 0, 1), thing))), False, at)

    def test_a_part_more_or_less(self):
        for wrong in (HOUSE + ((),), HOUSE[:2], HOUSE[1:], (), (3,), list(HOUSE), (HOUSE,), None, "house", {}, 3):
            self.assertIs(is_house(wrong), False, wrong)

    def test_odd_things_in_every_place(self):
        for place in places_in(HOUSE):
            for at, thing in enumerate(ODD_THINGS):
                self.assertIs(is_house(put(HOUSE, place, thing)), False, (place, at))

    def test_a_list_in_each_tuples_place(self):
        for place in places_in(HOUSE):
            part = found(HOUSE, place)
            if isinstance(part, tuple):
                self.assertIs(is_house(put(HOUSE, place, list(part))), False, place)
                self.assertIs(is_house(put(HOUSE, place, part + (Thorny(),))), False, place)

    def test_a_truth_in_each_numbers_place(self):
        for place in places_in(HOUSE):
            part = found(HOUSE, place)
            if part in (0, 1) and isinstance(part, int):
                self.assertIs(is_house(put(HOUSE, place, bool(part))), False, place)

    def test_nested_forty_deep(self):
        for thing in (nested(tuple, 40), nested(list, 40), (3, nested(tuple, 39), ()), (3, (), nested(tuple, 39))):
            self.assertIs(is_house(thing), False)
            self.assertIs(is_wish(thing, 3), False)


if __name__ == "__main__":
    unittest.main()
