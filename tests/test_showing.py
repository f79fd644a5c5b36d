"""Points 30 and 31: houses and rows of deeds shown as texts, and read again as they were."""

import itertools
import random
import unittest

from callwishes.lines import TESTS
from callwishes.reading import read_house, row_in
from callwishes.showing import show_house, show_row
from callwishes.wishes import ACTS_OF_KIND, LINES_OF_EVENT, all_deeds, is_house
from helper import (
    ALWAYS, BACK, BARRED, ENGAGED, HOLD, KEPTOUT, LATE, MANY_BY_ORDER, PARK, SECOND, SMALL_HOUSES, THREE, deed_in,
    house_of, orbit, rule_in, tale_rule_in,
)


def some_pattern(chance, n):
    lines = tuple(line for line in range(n) if chance.random() < 0.5)
    return lines or None


def some_tests(chance):
    return tuple(test for test in TESTS if chance.random() < 0.2)


def some_rule(chance, me, n):
    kind = chance.choice(sorted(ACTS_OF_KIND))
    word = chance.choice(ACTS_OF_KIND[kind])
    line = chance.choice([line for line in range(n) if line != me])
    act = (word, line) if word in ("send", "also") else (word,)
    pattern = None if kind in ("flash", "drop") else some_pattern(chance, n)
    return (chance.randrange(8), kind, pattern, some_tests(chance), act, chance.randrange(8))


def some_tale_rule(chance, n):
    word = chance.choice(sorted(LINES_OF_EVENT))
    patterns = tuple(some_pattern(chance, n) for _ in range(LINES_OF_EVENT[word]))
    return (chance.randrange(8), word, patterns, some_tests(chance), chance.choice([None, *range(8)]))


def some_wish(chance, n, rules, tale):
    me = chance.randrange(n)
    return (me, tuple(some_rule(chance, me, n) for _ in range(rules)), tuple(some_tale_rule(chance, n) for _ in range(tale)))


def some_houses():
    """Houses of 2 to 4 lines, 0 to 6 wishes, 0 to 12 rules, 0 to 16 of a tale; the same ones each time."""
    chance = random.Random(30)
    for n, many in itertools.product((2, 3, 4), range(7)):
        for share in (0, 0.5, 1):
            wishes = tuple(some_wish(chance, n, chance.choice((0, 1, 5, 12)), chance.choice((0, 1, 7, 16)))
                           for _ in range(many))
            yield (n, wishes, tuple(deed for deed in all_deeds(n) if chance.random() < share))


def house_in(text):
    """The house of a text without told rows, by the helper's ways of reading."""
    first, *rows, last = text.split("\n")
    wishes = []
    for row in rows:
        word, rest = row.split(" ", 1)
        if word == "wish":
            wishes.append(("abcd".index(rest), [], []))
        elif word == "rule":
            wishes[-1][1].append(rule_in(rest))
        else:
            wishes[-1][2].append(tale_rule_in(row))
    n = int(first.split(" ")[1])
    words = last.split(" ")[1:]
    deeds = all_deeds(n) if words == ["all"] else tuple(deed_in(word) for word in words)
    return (n, tuple((me, tuple(rules), tuple(tale)) for me, rules, tale in wishes), deeds)


class ShowHouse(unittest.TestCase):
    def test_a_text(self):
        house = house_of(ALWAYS, ("a",), ("c", "7 flash * talk,held join 3", "0 in ab night,hid also:b 0",
                                          "tale 0 joins c - 7", "tale 7 turn - day,idle !", "tale 1 rings *,abc named 0"),
                         n=3, deeds="dial:a:b dial:c:b take:a drop:b flash:c wait turn")
        self.assertEqual(show_house(house), "\n".join((
            "lines 3",
            "wish b",
            "rule 0 in * - send:c 0",
            "tale 0 comes *,b - 1",
            "tale 1 sent *,b,c - 0",
            "tale 1 done - - !",
            "wish a",
            "wish c",
            "rule 7 flash * talk,held join 3",
            "rule 0 in ab night,hid also:b 0",
            "tale 0 joins c - 7",
            "tale 7 turn - day,idle !",
            "tale 1 rings *,abc named 0",
            "deeds dial:a:b dial:c:b take:a drop:b flash:c wait turn")))

    def test_of_no_wishes(self):
        for n in (2, 3, 4):
            self.assertEqual(show_house(house_of(n=n)), f"lines {n}\ndeeds")
            self.assertEqual(show_house(house_of(n=n, deeds="all")), f"lines {n}\ndeeds all")
            self.assertEqual(show_house(house_of(n=n, deeds="turn")), f"lines {n}\ndeeds turn")

    def test_all_deeds_and_all_but_one(self):
        for n in (2, 3, 4):
            deeds = all_deeds(n)
            for at in range(len(deeds)):
                text = show_house((n, (), deeds[:at] + deeds[at + 1:]))
                self.assertNotIn("all", text)
                self.assertEqual(len(text.split("\n")[1].split(" ")), len(deeds))
                self.assertEqual(text.split("\n")[1].split(" ")[1:],
                                 [":".join((deed[0], *["abcd"[line] for line in deed[1:]]))
                                  for deed in deeds if deed != deeds[at]])

    def test_told_wishes_have_no_told_row(self):
        for rows in (ALWAYS, KEPTOUT, BARRED, ENGAGED, LATE, SECOND, HOLD, THREE, PARK, BACK):
            text = show_house(house_of(rows, n=3, deeds="all"))
            shown = [row if row.startswith("tale") else "rule " + row for row in rows[1:]]
            self.assertEqual(text.split("\n"), ["lines 3", "wish b", *shown, "deeds all"])

    def test_is_read_again_as_it_was(self):
        houses = [*some_houses(), *SMALL_HOUSES.values(), MANY_BY_ORDER, house_of(orbit("a", "drop", 3, 5), n=2)]
        for house in houses:
            self.assertTrue(is_house(house))
            text = show_house(house)
            self.assertEqual(read_house(text), house)
            self.assertEqual(house_in(text), house)
            self.assertEqual(show_house(read_house(text)), text)

    def test_of_the_most_rules(self):
        wishes = tuple(some_wish(random.Random(seed), 4, 12, 16) for seed in range(6))
        house = (4, wishes, all_deeds(4))
        self.assertTrue(is_house(house))
        self.assertEqual(len(show_house(house).split("\n")), 2 + 6 * 29)
        self.assertEqual(read_house(show_house(house)), house)

    def test_every_kind_act_test_and_event(self):
        n = 4
        rules = [(0, kind, None, (), (word, 1) if word in ("send", "also") else (word,), 0)
                 for kind, words in ACTS_OF_KIND.items() for word in words]
        rules += [(state, "met", (line,), (test,), ("pass",), 7 - state)
                  for state, line, test in zip(itertools.cycle(range(8)), itertools.cycle(range(4)), TESTS)]
        tales = [(3, word, (None,) * many, (), None) for word, many in LINES_OF_EVENT.items()]
        tales += [(3, word, ((0, 3),) * many, TESTS, 4) for word, many in LINES_OF_EVENT.items()]
        for rule in rules:
            house = (n, ((0, (rule,), ()),), ())
            self.assertEqual(read_house(show_house(house)), house)
            self.assertEqual(rule_in(show_house(house).split("\n")[2].split(" ", 1)[1]), rule)
        for rule in tales:
            house = (n, ((0, (), (rule,)),), ())
            self.assertEqual(read_house(show_house(house)), house)
            self.assertEqual(tale_rule_in(show_house(house).split("\n")[2]), rule)

    def test_nothing_handed_in_is_changed(self):
        for house in SMALL_HOUSES.values():
            before = repr(house)
            self.assertIs(type(show_house(house)), str)
            self.assertEqual(show_house(house), show_house(house))
            self.assertEqual(repr(house), before)


class ShowRow(unittest.TestCase):
    def test_rows(self):
        for deeds, text in (((), "-"), ((("turn",),), "turn"), ((("wait",), ("wait",)), "wait wait"),
                            ((("dial", 0, 1), ("take", 1), ("drop", 0)), "dial:a:b take:b drop:a"),
                            ((("flash", 3), ("dial", 3, 2), ("turn",)), "flash:d dial:d:c turn")):
            self.assertEqual(show_row(deeds), text)

    def test_of_every_deed(self):
        for deed in all_deeds(4):
            self.assertEqual(show_row((deed,)), ":".join((deed[0], *["abcd"[line] for line in deed[1:]])))
        self.assertEqual(show_row(all_deeds(2)),
                         "dial:a:b dial:b:a take:a take:b drop:a drop:b flash:a flash:b wait turn")

    def test_is_read_again_as_it_was(self):
        for n in (2, 3, 4):
            deeds = all_deeds(n)
            for row in ((), deeds, deeds[::-1], deeds + deeds, *itertools.product(deeds, repeat=2)):
                text = show_row(row)
                self.assertIs(type(text), str)
                self.assertEqual(row_in(text), row)

    def test_as_in_a_houses_row(self):
        deeds = all_deeds(3)[3:9]
        self.assertEqual(show_house((3, (), deeds)), "lines 3\ndeeds " + show_row(deeds))


if __name__ == "__main__":
    unittest.main()
