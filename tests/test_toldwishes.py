"""Point 32: the told wishes; and of point 3 what they keep to, alone and by twos."""

import itertools
import unittest

from callwishes.alike import alike_paper, idle_wishes
from callwishes.alikelooks import shows_alike
from callwishes.booklooks import shows_quiet
from callwishes.books import quiet_paper, scenes_of
from callwishes.errors import NoWish, TooMany, WishError
from callwishes.rooms import talks_of
from callwishes.runs import broken, ran
from callwishes.toldwishes import told_wish
from callwishes.waysout import longest_way, two_talks, way_out
from callwishes.wishes import all_deeds, is_house, is_wish
from helper import (
    ALWAYS, BACK, BARRED, ENGAGED, HOLD, KEPTOUT, LATE, ODD_PARTS, PARK, SECOND, THREE, events_text, has_told_kinds,
    row_in, wish_in,
)

WITH_LINE = ("always", "night", "engaged", "late", "shared", "back")
WITH_ROW = ("barred", "keptout")
BARE = ("quiet", "hide", "unhid", "names", "second", "hold", "three", "park")
NAMES = WITH_LINE + WITH_ROW + BARE


def sent_tale(m, x, word="comes", tests=()):
    return ((0, word, (None, (m,)), tests, 1), (1, "sent", (None, (m,), (x,)), (), 0), (1, "done", (), (), None))


def never_at(froms, tos, tests):
    return ((0, "rings", (froms, tos), tests, None), (0, "shows", (froms, tos), tests, None))


def held_tale(m, word):
    return ((0, word, ((m,),), ("talk",), 1), (1, "holds", ((m,), None), (), 0), (1, "done", (), (), None))


# Of each name the rules and the tale, of the wish's line and its lines.
TOLD = {
    "always": lambda m, x: (((0, "in", None, (), ("send", x), 0),), sent_tale(m, x)),
    "night": lambda m, x: (((0, "in", None, ("night",), ("send", x), 0),), sent_tale(m, x, tests=("night",))),
    "engaged": lambda m, x: (((0, "full", None, (), ("send", x), 0),), sent_tale(m, x, tests=("used",))),
    "late": lambda m, x: (((0, "long", None, (), ("send", x), 0),), sent_tale(m, x, "waits")),
    "barred": lambda m, *r: (((0, "out", r, (), ("bar",), 0),), never_at((m,), r, ())),
    "keptout": lambda m, *r: (((0, "in", r, (), ("shut",), 0),), never_at(r, (m,), ())),
    "quiet": lambda m: (((0, "in", None, ("night",), ("shut",), 0),), never_at(None, (m,), ("night",))),
    "hide": lambda m: (((0, "out", None, (), ("hide",), 0),), never_at((m,), None, ("named",))),
    "unhid": lambda m: (((0, "in", None, ("hid",), ("shut",), 0),), never_at(None, (m,), ("hid",))),
    "names": lambda m: ((), never_at(None, (m,), ("hid",))),
    "second": lambda m: (
        ((0, "full", None, ("talk", "clear"), ("show",), 0), (0, "flash", None, ("talk", "shown"), ("swap",), 0),
         (0, "flash", None, ("talk", "held"), ("swap",), 0), (0, "flash", None, ("mute", "held"), ("swap",), 0)),
        ((0, "comes", (None, (m,)), ("talk", "clear"), 1), (1, "shows", (None, (m,)), (), 0), (1, "done", (), (), None),
         (0, "flash", ((m,),), ("talk", "shown"), 2), (2, "talks", (None, (m,)), (), 0), (2, "done", (), (), None))),
    "hold": lambda m: (
        ((0, "flash", None, ("talk",), ("swap",), 0), (0, "flash", None, ("mute", "held"), ("swap",), 0)),
        held_tale(m, "flash")),
    "three": lambda m: (
        ((0, "flash", None, ("talk", "bare"), ("swap",), 0), (0, "flash", None, ("talk", "held"), ("join",), 0),
         (0, "flash", None, ("mute", "held"), ("swap",), 0)),
        ((0, "flash", ((m,),), ("talk", "held"), 1), (1, "joins", ((m,),), (), 0), (1, "done", (), (), None))),
    "park": lambda m: (((0, "drop", None, ("talk",), ("keep",), 0),), held_tale(m, "drop")),
    "shared": lambda m, x: (
        ((0, "in", None, ("idle",), ("also", x), 0),), ((0, "sent", (None, (m,), None), (), None),)),
    "back": lambda m, x: (
        ((0, "met", (x,), (), ("pass",), 1), (1, "free", (x,), ("idle",), ("ring",), 0)),
        ((0, "busy", ((m,), (x,)), (), 1), (1, "frees", ((x,),), ("idle",), 2), (2, "backs", ((m,), (x,)), (), 0),
         (2, "done", (), (), None))),
}


def lines_for(name, me, n):
    """All lines that a told wish may have in a house of n lines."""
    others = [line for line in range(n) if line != me]
    if name in WITH_LINE:
        return [(line,) for line in others]
    if name in WITH_ROW:
        return [row for size in range(1, n) for row in itertools.combinations(others, size)]
    return [()]


def all_told(n):
    """(name, me, lines) of all told wishes of a house of n lines."""
    return [(name, me, lines) for name in NAMES for me in range(n) for lines in lines_for(name, me, n)]


def told_house(n, *told, deeds="all"):
    house = (n, tuple(told_wish(*each) for each in told), all_deeds(n) if deeds == "all" else row_in(deeds))
    assert is_house(house)
    return house


class ToldWishes(unittest.TestCase):
    def test_there_are_sixteen(self):
        self.assertEqual((len(NAMES), set(NAMES)), (16, set(TOLD)))

    def test_each_rule_by_rule_and_tale_by_tale(self):
        for name, me, lines in all_told(4):
            rules, tale = TOLD[name](me, *lines)
            told = told_wish(name, me, lines)
            self.assertEqual(told[0], me)
            self.assertEqual(told[1], rules, name)
            self.assertEqual(told[2], tale, name)
            self.assertEqual(told, (me, rules, tale))

    def test_they_are_wishes(self):
        for n in (2, 3, 4):
            for told in all_told(n):
                self.assertTrue(is_wish(told_wish(*told), n), told)
        self.assertFalse(is_wish(told_wish("always", 0, (3,)), 3))
        self.assertFalse(is_wish(told_wish("quiet", 2, ()), 2))

    def test_as_texts(self):
        for name, lines, rows in (("always", (2,), ALWAYS), ("engaged", (2,), ENGAGED), ("late", (2,), LATE),
                                  ("barred", (0, 2), BARRED), ("keptout", (0, 2), KEPTOUT), ("second", (), SECOND),
                                  ("hold", (), HOLD), ("three", (), THREE), ("park", (), PARK), ("back", (2,), BACK)):
            self.assertEqual(told_wish(name, 1, lines), wish_in(*rows), name)

    def test_rows_of_lines(self):
        for name in WITH_ROW:
            for lines in ((1,), (2, 3), (1, 2, 3)):
                self.assertEqual(told_wish(name, 0, lines)[1][0][2], lines)

    def test_what_is_told(self):
        for told in all_told(4):
            before = repr(told)
            wish = told_wish(*told)
            self.assertTrue(has_told_kinds(wish))
            self.assertEqual(told_wish(*told), wish)
            self.assertEqual(repr(told), before)


class NoWishes(unittest.TestCase):
    def check_none(self, name, me, lines):
        with self.assertRaises(NoWish):
            told_wish(name, me, lines)

    def test_names_that_are_none(self):
        for name in ("", "Always", "ALWAYS", "always ", " always", "alway", "kept", "kept out", "hid", "wish", "told",
                     "in", "0", "*", "-", "three\n", "seconds", "always:c", "hold,park", "tale", "rules"):
            for lines in ((), (2,), (0, 2)):
                self.check_none(name, 1, lines)

    def test_lines_missing(self):
        for name in WITH_LINE + WITH_ROW:
            self.check_none(name, 1, ())

    def test_lines_too_many(self):
        for name in WITH_LINE:
            for lines in ((0, 2), (2, 3), (0, 2, 3), (2, 2), (2, 0)):
                self.check_none(name, 1, lines)
        for name in BARE:
            for lines in ((0,), (2,), (1,), (0, 2), (0, 2, 3)):
                self.check_none(name, 1, lines)
        for name in WITH_ROW:
            self.check_none(name, 1, (0, 2, 3, 3))
            self.check_none(name, 1, (0, 2, 3, 4))

    def test_its_own_line_among_them(self):
        for name in WITH_LINE + WITH_ROW:
            for me in range(4):
                self.check_none(name, me, (me,))
        for name in WITH_ROW:
            for me in range(4):
                self.check_none(name, me, (0, 1, 2, 3))
            self.check_none(name, 1, (0, 1))
            self.check_none(name, 1, (1, 2))
            self.check_none(name, 3, (2, 3))

    def test_rows_that_dont_rise(self):
        for name in WITH_ROW:
            for lines in ((2, 0), (0, 0), (2, 2), (0, 3, 2), (3, 2, 0), (0, 2, 2)):
                self.check_none(name, 1, lines)

    def test_lines_from_4_on_or_below_nought(self):
        for name in WITH_LINE + WITH_ROW:
            for line in (4, 5, 8, 99, -1, -2, -4):
                self.check_none(name, 1, (line,))
        for name in WITH_ROW:
            for lines in ((0, 4), (-1, 0), (2, 3, 4), (-1, 4)):
                self.check_none(name, 1, lines)

    def test_wishes_of_lines_that_are_none(self):
        for name in NAMES:
            for me in (4, 5, 99, -1, -4):
                self.check_none(name, me, () if name in BARE else (2,))

    def test_of_other_kinds(self):
        for part in ODD_PARTS:
            self.check_none("barred", 0, part)
            self.check_none("always", 0, part)
            self.check_none("always", 0, (part,))
            if not (isinstance(part, tuple) and part == ()):
                self.check_none("quiet", 0, part)
            self.check_none(part, 0, (1,))
            self.check_none("quiet", part, ())
        for lines in (None, [], [2], "c", "*", {2: True}, 2, [(2,)], ((2,),), (None,), ("c",)):
            for name in NAMES:
                self.check_none(name, 1, lines)

    def test_the_refusal(self):
        self.assertEqual(NoWish.__bases__, (WishError,))


class Alone(unittest.TestCase):
    def test_quiet_over_all_rows_of_deeds(self):
        for n in (2, 3):
            for told in all_told(n):
                house = told_house(n, told)
                paper = quiet_paper(house)
                self.assertEqual(paper[0], "quiet", told)
                if told[1] == 1:
                    self.assertIs(shows_quiet(house, paper), True, told)

    def test_quiet_over_rows_of_some_deeds_of_four_lines(self):
        deeds = "dial:a:b dial:b:d dial:c:b take:b take:d drop:b drop:d flash:b wait turn"
        for name in NAMES:
            for lines in lines_for(name, 1, 4)[:4]:
                self.assertEqual(quiet_paper(told_house(4, (name, 1, lines), deeds=deeds))[0], "quiet", (name, lines))

    def test_how_many_scenes(self):
        for name, many in (("always", 80), ("night", 104), ("engaged", 102), ("late", 104), ("quiet", 140), ("hide", 102),
                           ("names", 102), ("second", 174), ("hold", 162), ("park", 164), ("shared", 104), ("back", 206)):
            paper = quiet_paper(told_house(3, (name, 1, lines_for(name, 1, 3)[0])))
            self.assertEqual(len(paper[1]), many, name)

    def check_events(self, told, *deeds_and_events, n=3):
        """Each deed's events, but the deed's own and done, are as told; no tale breaks on the way."""
        house = told_house(n, told)
        row = row_in(" ".join(deeds_and_events[::2]))
        scene, events = ran(house, row)
        self.assertEqual([events_text(each[1:-1]) for each in events], list(deeds_and_events[1::2]))
        self.assertEqual(broken(scene), ())

    def test_always(self):
        self.check_events(("always", 1, (2,)), "dial:a:b", "comes:a:b sent:a:b:c comes:a:c rings:a:c",
                          "dial:b:c", "comes:b:c busy:b:c", "take:c", "talks:a:c")
        self.check_events(("always", 1, (2,)), "dial:c:b", "comes:c:b sent:c:b:c busy:c:b")

    def test_night(self):
        self.check_events(("night", 1, (2,)), "dial:a:b", "comes:a:b rings:a:b", "drop:a", "ends:a:b frees:a frees:b",
                          "turn", "night", "dial:a:b", "comes:a:b sent:a:b:c comes:a:c rings:a:c")

    def test_engaged(self):
        self.check_events(("engaged", 1, (3,)), "dial:a:b", "comes:a:b rings:a:b",
                          "dial:c:b", "comes:c:b sent:c:b:d comes:c:d rings:c:d", n=4)

    def test_late(self):
        self.check_events(("late", 1, (2,)), "dial:a:b", "comes:a:b rings:a:b",
                          "wait", "waits:a:b sent:a:b:c comes:a:c rings:a:c frees:b", "wait", "waits:a:c")

    def test_barred(self):
        self.check_events(("barred", 1, (0, 3)), "dial:b:a", "shut:b:a", "drop:b", "ends:b:a frees:b",
                          "dial:b:c", "comes:b:c rings:b:c", "drop:b", "ends:b:c frees:b frees:c",
                          "dial:b:d", "shut:b:d", "dial:a:b", "comes:a:b busy:a:b", n=4)

    def test_keptout(self):
        self.check_events(("keptout", 1, (0, 3)), "dial:a:b", "comes:a:b shut:a:b", "dial:c:b", "comes:c:b rings:c:b",
                          "dial:d:b", "comes:d:b shut:d:b", n=4)

    def test_quiet(self):
        self.check_events(("quiet", 1, ()), "dial:a:b", "comes:a:b rings:a:b", "turn", "night", "take:b", "talks:a:b",
                          "dial:c:b", "comes:c:b shut:c:b")

    def test_hide(self):
        self.check_events(("hide", 1, ()), "dial:b:a", "comes:b:a:hid rings:b:a:hid", "take:a", "talks:b:a:hid",
                          "drop:b", "ends:b:a frees:a frees:b", "dial:a:b", "comes:a:b rings:a:b")

    def test_unhid_and_names(self):
        for name, text in (("unhid", "comes:a:b:hid shut:a:b:hid"), ("names", "comes:a:b:hid rings:a:b:hid")):
            house = told_house(2, ("hide", 0, ()), (name, 1, ()))
            scene, events = ran(house, row_in("dial:a:b"))
            self.assertEqual(events_text(events[0][1:-1]), text)
            self.assertEqual(broken(scene), () if name == "unhid" else (1,))
        for name in ("unhid", "names"):
            self.check_events((name, 1, ()), "dial:a:b", "comes:a:b rings:a:b")

    def test_second(self):
        self.check_events(("second", 1, ()), "dial:a:b", "comes:a:b rings:a:b", "take:b", "talks:a:b",
                          "dial:c:b", "comes:c:b shows:c:b", "flash:b", "holds:b:a talks:c:b", "flash:b",
                          "holds:b:c talks:a:b", "drop:b", "ends:a:b ends:c:b frees:a frees:b frees:c")
        self.check_events(("second", 1, ()), "dial:a:b", "comes:a:b rings:a:b", "dial:c:b", "comes:c:b busy:c:b")

    def test_hold(self):
        self.check_events(("hold", 1, ()), "dial:a:b", "comes:a:b rings:a:b", "take:b", "talks:a:b",
                          "flash:b", "holds:b:a", "dial:b:c", "comes:b:c rings:b:c", "take:c", "talks:b:c",
                          "flash:b", "holds:b:c talks:a:b", "flash:b", "holds:b:a talks:b:c")

    def test_three(self):
        self.check_events(("three", 1, ()), "dial:a:b", "comes:a:b rings:a:b", "take:b", "talks:a:b",
                          "flash:b", "holds:b:a", "dial:b:c", "comes:b:c rings:b:c", "take:c", "talks:b:c",
                          "flash:b", "talks:a:b joins:b", "flash:b", "holds:b:a holds:b:c", "flash:b", "talks:a:b")

    def test_park(self):
        self.check_events(("park", 1, ()), "dial:a:b", "comes:a:b rings:a:b", "take:b", "talks:a:b",
                          "drop:b", "holds:b:a", "drop:b", "ends:a:b frees:a frees:b")

    def test_shared(self):
        self.check_events(("shared", 1, (2,)), "dial:a:b", "comes:a:b rings:a:c rings:a:b",
                          "take:c", "talks:a:c ends:a:b frees:b", "dial:b:c", "comes:b:c busy:b:c")

    def test_back(self):
        self.check_events(("back", 1, (2,)), "dial:a:c", "comes:a:c rings:a:c", "dial:b:c", "comes:b:c busy:b:c",
                          "drop:b", "ends:b:c frees:b", "drop:a", "ends:a:c frees:a frees:c backs:b:c",
                          "take:b", "comes:b:c rings:b:c")


class OverTheWhole(unittest.TestCase):
    def test_lines_come_out_of_their_calls(self):
        for told in all_told(3):
            if told[1] == 1:
                many, scene, line = longest_way(told_house(3, told))
                self.assertIsNotNone(many, told)
                self.assertLessEqual(many, 4)

    def test_two_talks_by_a_join_alone(self):
        for told in all_told(3):
            house = told_house(3, told)
            if told[0] != "three":
                self.assertIsNone(two_talks(house), told)
            else:
                self.assertEqual(two_talks(house)[1], told[1])
                for scene, line in itertools.product(scenes_of(house), range(3)):
                    self.assertTrue(line == told[1] or len(talks_of(scene[0], line)) < 2)

    def test_by_twos(self):
        """Of two told wishes papers show what is told; lines without a back come out; two talks are joined ones."""
        told = [(name, 1, lines_for(name, 1, 3)[-1]) for name in NAMES]
        told += [("park", 0, ()), ("three", 2, ()), ("hold", 0, ()), ("back", 0, (1,))]
        words = {"quiet": 0, "quarrel": 0}
        for at, twos in enumerate(itertools.product(told, repeat=2)):
            if at % 13 != 0:
                continue
            house = told_house(3, *twos)
            paper = quiet_paper(house)
            words[paper[0]] += 1
            self.assertIs(shows_quiet(house, paper), True, twos)
            joining = [me for name, me, lines in twos if name == "three"]
            backs = [me for name, me, lines in twos if name == "back"]
            for scene, line in itertools.product(scenes_of(house), range(3)):
                self.assertTrue(line in joining or len(talks_of(scene[0], line)) < 2, twos)
                self.assertTrue(line in backs or way_out(house, scene, line) is not None, twos)
        self.assertGreater(min(words.values()), 1)

    def test_calls_sent_on_come_to_an_end(self):
        told = [("always", me, ((me + 1) % 4,)) for me in range(4)] + [("engaged", 1, (3,)), ("late", 2, (0,))]
        house = told_house(4, *told, deeds="dial:a:b dial:a:c dial:b:a dial:d:a take:c wait turn")
        self.assertEqual(events_text(ran(house, row_in("dial:a:c"))[1][0]),
                         "dial:a:c comes:a:c sent:a:c:d comes:a:d sent:a:d:a busy:a:d done")
        self.assertLess(len(scenes_of(house)), 100)

    def test_quarrels_of_told_wishes(self):
        for told, row, k in (((("keptout", 1, (0,)), ("always", 1, (2,))), "dial:a:b", 1),
                             ((("quiet", 1, ()), ("night", 1, (2,))), "turn dial:a:b", 1),
                             ((("hide", 0, ()), ("names", 1, ())), "dial:a:b", 1),
                             ((("engaged", 1, (2,)), ("second", 1, ())), "dial:a:b take:b dial:c:b", 1),
                             ((("hold", 1, ()), ("three", 1, ())), "dial:a:b take:b flash:b dial:b:c take:c flash:b", 1)):
            house = told_house(3, *told)
            paper = quiet_paper(house)
            self.assertEqual(paper[:3], ("quarrel", row_in(row), k), told)
            self.assertIs(shows_quiet(house, paper), True)
            self.assertEqual(k in broken(ran(house, row_in(row))[0]), True)

    def test_told_houses_that_are_alike(self):
        for one, other, word in (((("always", 1, (2,)), ("keptout", 1, (0,))), (("always", 1, (2,)),), "alike"),
                                 ((("names", 1, ()),), (), "alike"), ((("unhid", 1, ()),), (), "alike"),
                                 ((("barred", 0, (1,)), ("hold", 2, ())), (("hold", 2, ()), ("barred", 0, (1,))), "alike"),
                                 ((("keptout", 1, (0, 2)),), (("keptout", 1, (0,)), ("keptout", 1, (2,))), "alike"),
                                 ((("keptout", 1, (0, 2)),), (("keptout", 1, (0,)),), "unlike"),
                                 ((("hide", 0, ()), ("unhid", 1, ())), (("hide", 0, ()),), "unlike"),
                                 ((("hold", 1, ()),), (("three", 1, ()),), "unlike")):
            one, other = told_house(3, *one), told_house(3, *other)
            paper = alike_paper(one, other)
            self.assertEqual(paper[0], word)
            self.assertIs(shows_alike(one, other, paper), True)
        self.assertEqual(idle_wishes(told_house(3, ("unhid", 1, ()), ("always", 1, (2,)), ("names", 0, ()))), (0, 2))
        self.assertEqual(idle_wishes(told_house(3, ("hide", 0, ()), ("unhid", 1, ()), ("names", 2, ()))), (2,))

    def test_too_many(self):
        for name in ("second", "three", "park", "back"):
            told = (name, 0, lines_for(name, 0, 4)[0])
            with self.assertRaises(TooMany):
                quiet_paper(told_house(4, told))


if __name__ == "__main__":
    unittest.main()
