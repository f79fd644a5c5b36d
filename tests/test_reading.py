"""Points 30 and 31: texts that are read as houses and rows of deeds, and texts that are refused, with the row."""

import itertools
import re
import unittest

from callwishes.errors import NoText
from callwishes.reading import read_house, row_in
from callwishes.showing import show_house, show_row
from callwishes.toldwishes import told_wish
from callwishes.wishes import all_deeds, is_house
from helper import has_told_kinds, house_of

# Row by row, what may be spoilt in it.
ROWS = (
    "lines 3",
    "wish b",
    "rule 0 in * - send:c 0",
    "rule 1 flash * talk,held join 7",
    "rule 2 in ac night,hid also:a 2",
    "tale 0 comes *,b - 1",
    "tale 1 done - - !",
    "wish c",
    "told barred ab",
    "wish a",
    "told hold",
    "deeds dial:a:b take:b wait turn",
)
NUMBERS_THAT_ARE_NONE = ("00", "01", "07", "8", "9", "10", "-1", "+1", "1.0", "", "-", "*", "x", "a", "!", "1,2", "0x1",
                         "\u0663", "\u00b2", "one", "1_0", "\t1", "1\t")
PATTERNS_THAT_ARE_NONE = ("d", "A", "ba", "aa", "abd", "**", "*a", "a*", "-", "a,b", "", "0", "e", "a:b", "none", "m", "X")
TESTS_THAT_ARE_NONE = ("day,talk,night", "day,night", "night,night", "night,", ",night", "", "Night", "NIGHT", "any", "--",
                       "-,night", "night,-", "night;day", "night:day", "hid,night", "*", "0", "talk, held", ",", "nigh")


def refused(text):
    """The row by which a text is refused, or None."""
    try:
        read_house(text)
    except NoText as refusal:
        return refusal.row
    return None


def with_row(at, row):
    return "\n".join((*ROWS[:at], row, *ROWS[at + 1:]))


def with_word(at, word_at, word):
    words = ROWS[at].split(" ")
    return with_row(at, " ".join([*words[:word_at], word, *words[word_at + 1:]]))


class Read(unittest.TestCase):
    def test_a_text(self):
        self.assertEqual(read_house("\n".join(ROWS)), (3, (
            (1, ((0, "in", None, (), ("send", 2), 0), (1, "flash", None, ("talk", "held"), ("join",), 7),
                 (2, "in", (0, 2), ("night", "hid"), ("also", 0), 2)),
             ((0, "comes", (None, (1,)), (), 1), (1, "done", (), (), None))),
            told_wish("barred", 2, (0, 1)),
            told_wish("hold", 0, ()),
        ), (("dial", 0, 1), ("take", 1), ("wait",), ("turn",))))

    def test_what_is_told(self):
        house = read_house("\n".join(ROWS))
        self.assertTrue(is_house(house))
        self.assertTrue(has_told_kinds(house))
        self.assertEqual(read_house("\n".join(ROWS)), house)
        self.assertEqual(read_house(show_house(house)), house)

    def test_few_rows(self):
        for n in (2, 3, 4):
            self.assertEqual(read_house(f"lines {n}\ndeeds"), (n, (), ()))
            self.assertEqual(read_house(f"lines {n}\ndeeds all"), (n, (), all_deeds(n)))
            self.assertEqual(read_house(f"lines {n}\nwish b\ndeeds"), (n, ((1, (), ()),), ()))

    def test_wishes_without_rules_or_tale(self):
        self.assertEqual(read_house("lines 2\nwish a\nwish b\nrule 0 in * - shut 0\nwish a\ntale 0 turn - - !\ndeeds turn"),
                         house_of(("a",), ("b", "0 in * - shut 0"), ("a", "tale 0 turn - - !"), n=2, deeds="turn"))

    def test_all_deeds_written_out(self):
        for n in (2, 3, 4):
            self.assertEqual(read_house(f"lines {n}\ndeeds {show_row(all_deeds(n))}"), (n, (), all_deeds(n)))

    def test_told_rows(self):
        for name, letters, lines in (("always", "c", (2,)), ("night", "a", (0,)), ("engaged", "d", (3,)), ("late", "c", (2,)),
                                     ("barred", "a", (0,)), ("barred", "acd", (0, 2, 3)), ("keptout", "cd", (2, 3)),
                                     ("quiet", None, ()), ("hide", None, ()), ("unhid", None, ()), ("names", None, ()),
                                     ("second", None, ()), ("hold", None, ()), ("three", None, ()), ("park", None, ()),
                                     ("shared", "d", (3,)), ("back", "a", (0,))):
            row = f"told {name}" if letters is None else f"told {name} {letters}"
            self.assertEqual(read_house(f"lines 4\nwish b\n{row}\ndeeds"), (4, (told_wish(name, 1, lines),), ()), row)

    def test_a_told_row_and_the_rows_for_which_it_stands(self):
        told = read_house("lines 3\nwish b\ntold keptout ac\nwish c\ntold names\ndeeds all")
        self.assertEqual(told, read_house(show_house(told)))
        self.assertNotIn("told", show_house(told))

    def test_the_most_of_all(self):
        wish = "wish a\n" + "rule 0 in * - pass 0\n" * 12 + "tale 0 turn - - !\n" * 16
        house = read_house("lines 2\n" + wish * 6 + "deeds")
        self.assertEqual([(len(rules), len(tale)) for me, rules, tale in house[1]], [(12, 16)] * 6)


class Spoilt(unittest.TestCase):
    def check_row(self, at, row):
        self.assertEqual(refused(with_row(at, row)), at, row)

    def check_words(self, at, word_at, words):
        for word in words:
            self.assertEqual(refused(with_word(at, word_at, word)), at, (at, word_at, word))

    def test_a_word_missing_or_more(self):
        for at, row in enumerate(ROWS):
            words = row.split(" ")
            for k in range(len(words)):
                fewer = " ".join(words[:k] + words[k + 1:])
                if row.startswith("deeds") and k > 0:
                    self.assertIsNone(refused(with_row(at, fewer)))
                else:
                    self.check_row(at, fewer)
            for k in range(len(words) + 1):
                for more in ("x", "0", "-", "a", "", words[0], "all"):
                    self.check_row(at, " ".join([*words[:k], more, *words[k:]]))

    def test_blanks(self):
        for at, row in enumerate(ROWS):
            for spoilt in (" " + row, row + " ", row.replace(" ", "  ", 1), row.replace(" ", "\t", 1), row + "\t", "\t" + row,
                           row + "\r", row.replace(" ", "\u00a0", 1), row.replace(" ", "", 1), row + "\x00", row + "\u2028",
                           row + "\x0b", row + "\x0c"):
                self.check_row(at, spoilt)
        self.assertEqual(refused("lines 2\ndeeds "), 1)
        self.assertEqual(refused("lines 2\ndeeds all "), 1)

    def test_empty_rows(self):
        for at in range(len(ROWS) + 1):
            self.assertEqual(refused("\n".join((*ROWS[:at], "", *ROWS[at:]))), at)
        self.assertEqual(refused("\n".join(ROWS) + "\n"), len(ROWS))
        self.assertEqual(refused("\r\n".join(ROWS)), 0)

    def test_great_letters(self):
        for at, row in enumerate(ROWS):
            words = row.split(" ")
            for k, word in enumerate(words):
                for great in {word.upper(), word.capitalize()} - {word}:
                    self.check_row(at, " ".join([*words[:k], great, *words[k + 1:]]))

    def test_first_words_that_are_none(self):
        for at, row in enumerate(ROWS):
            rest = row.split(" ", 1)[1]
            for word in ("", "line", "wishes", "rules", "tales", "ask", "#", "//", "x", "0", "house", "told:"):
                self.check_row(at, word + " " + rest)
                self.check_row(at, word)

    def test_lines(self):
        for word in ("0", "1", "5", "6", "7", "8", "12", "02", "+3", "-3", "3.0", "three", "a", "*", "3,", "\u0663", "all"):
            self.check_row(0, "lines " + word)
        for row in ("lines", "lines 3 3", "lines:3", "3", "deeds all", "ask", ""):
            self.check_row(0, row)

    def test_wishes_lines(self):
        for word in ("d", "e", "A", "ab", "ac", "*", "0", "1", "-", "aa", "b,c", "x", "all"):
            self.check_row(1, "wish " + word)
        for n, letters in ((2, "cd"), (3, "d")):
            for letter in letters:
                self.assertEqual(refused(f"lines {n}\nwish {letter}\ndeeds"), 1)

    def test_numbers(self):
        for at in (2, 3, 4):
            self.check_words(at, 1, NUMBERS_THAT_ARE_NONE)
            self.check_words(at, 6, NUMBERS_THAT_ARE_NONE)
        for at in (5, 6):
            self.check_words(at, 1, NUMBERS_THAT_ARE_NONE)
            self.check_words(at, 5, [word for word in NUMBERS_THAT_ARE_NONE if word != "!"] + ["!!", "none", "None"])
        for number in range(8):
            for at, k in ((2, 1), (2, 6), (5, 1), (5, 5)):
                self.assertIsNone(refused(with_word(at, k, str(number))))

    def test_kinds_and_words(self):
        self.check_words(2, 2, ("on", "inn", "met", "out", "flash", "drop", "free", "comes", "", "*", "0", "long,full"))
        for kind in ("in", "full", "long"):
            self.assertIsNone(refused(with_word(2, 2, kind)))
        self.check_words(5, 2, ("come", "in", "sent", "take", "done", "", "*", "0", "hold", "ring", "dial:a:b"))
        for word in ("dial", "comes", "rings", "shows", "busy", "shut", "talks", "ends", "waits", "holds", "backs"):
            self.assertIsNone(refused(with_word(5, 2, word)))

    def test_patterns(self):
        for at in (2, 4):
            self.check_words(at, 3, PATTERNS_THAT_ARE_NONE)
            for word in ("*", "a", "b", "c", "ab", "ac", "bc", "abc"):
                self.assertIsNone(refused(with_word(at, 3, word)))
        # Of flash and drop there is no pattern but any line.
        self.check_words(3, 3, (*PATTERNS_THAT_ARE_NONE, "a", "b", "ab", "abc"))

    def test_patterns_of_tales(self):
        self.check_words(5, 3, ("*", "-", "b", "*,b,c", "*,d", "d,*", "*,ba", "*;b", "*,", ",b", ",", "*,b,", "*,-", "*,*,*",
                                "*:b", "A,b", "", "-,-", "*,m"))
        self.check_words(6, 3, ("*", "a", "*,*", ",", "", "--", "!", "-,"))
        for word, one, other in (("take", "a", "a,b"), ("joins", "*", "-"), ("sent", "*,b,c", "*,b"), ("turn", "-", "*")):
            row = ROWS[5].replace("comes", word)
            self.assertIsNone(refused(with_row(5, row.replace("*,b", one))))
            self.check_row(5, row.replace("*,b", other))

    def test_tests(self):
        for at, k in ((2, 4), (3, 4), (4, 4), (5, 4), (6, 4)):
            self.check_words(at, k, TESTS_THAT_ARE_NONE)
            for word in ("-", "night", "night,day", "day,talk,mute,held", "hid,named",
                         "night,day,talk,mute,held,bare,shown,clear,idle,used,hid,named"):
                self.assertIsNone(refused(with_word(at, k, word)))

    def test_acts(self):
        self.check_words(2, 5, ("send:b", "send:d", "send", "send:", "send:cc", "send:c:a", "send:*", "send:2", "send:C", "also:b",
                                "also:d", "also", "also:", "bar", "hide", "show", "swap", "join", "keep", "ring", "pass:c",
                                "shut:c", ":c", "", "-", "sent:c", "send,c", "send-c", "send:ac", "send:c,"))
        for word in ("send:a", "send:c", "also:a", "also:c", "shut", "pass"):
            self.assertIsNone(refused(with_word(2, 5, word)))
        self.check_words(3, 5, ("keep", "show", "shut", "send:c", "join:c", "join:", "swap:a", "bar", ""))
        for kind, acts in (("out", "bar hide pass"), ("full", "shut send:c show pass"), ("met", "pass"), ("drop", "keep pass"),
                           ("long", "shut send:a pass"), ("flash", "swap join pass"), ("free", "ring pass"),
                           ("in", "shut send:c also:a pass")):
            for act in "bar hide shut send:a send:c also:a also:c show swap join keep ring pass".split():
                family = act.split(":")[0]
                is_so = family in [each.split(":")[0] for each in acts.split()]
                self.assertEqual(refused(with_row(2, f"rule 0 {kind} * - {act} 0")), None if is_so else 2, (kind, act))

    def test_a_send_or_also_to_the_wishs_own_line(self):
        for letter in "abcd":
            for act in ("send", "also"):
                for to in "abcd":
                    text = f"lines 4\nwish {letter}\nrule 0 in * - {act}:{to} 0\ndeeds"
                    self.assertEqual(refused(text), 2 if letter == to else None)

    def test_told_rows_that_are_none(self):
        for row in ("told", "told x", "told always", "told always d", "told always c", "told always *",
                    "told always ab a", "told always ab", "told always a b", "told quiet a", "told quiet -", "told quiet *",
                    "told barred", "told barred ba", "told barred aa", "told barred c", "told barred ac", "told barred abc",
                    "told barred *", "told barred d", "told barred bd", "told barred a,b", "told Barred a", "told barred A",
                    "told names ", "told names a", "told second 1", "told back 0", "told back", "told always:b", "told -"):
            self.check_row(8, row)
        for row in ("told always b", "told barred a", "told barred b", "told quiet", "told back a"):
            self.assertIsNone(refused(with_row(8, row)), row)

    def test_told_rows_with_lines_that_the_house_hasnt(self):
        for name in ("always", "night", "engaged", "late", "barred", "keptout", "shared", "back"):
            for n, letter, is_so in ((2, "b", True), (2, "c", False), (2, "d", False), (3, "c", True), (3, "d", False),
                                     (4, "d", True)):
                self.assertEqual(refused(f"lines {n}\nwish a\ntold {name} {letter}\ndeeds"), None if is_so else 2)
        self.assertEqual(refused("lines 3\nwish a\ntold barred bd\ndeeds"), 2)

    def test_deeds(self):
        at = len(ROWS) - 1
        for words in ("all all", "All", "all turn", "turn all", "-", "none", "dial:a:d", "dial:d:a", "dial:a:a", "dial:a",
                      "dial", "dial:a:b:c", "dial:ab", "dial:a:", "dial::b", "dial:A:b", "Dial:a:b", "dial:0:1", "dial a b",
                      "take", "take:d", "take:a:b", "take:", "take:ab", "drop:*", "flash", "wait:a", "turn:", "turn,wait",
                      "wait;turn", ":a", "night", "done", "rings:a:b", "turn ", " turn", "turn  turn", "wait\tturn"):
            self.check_row(at, "deeds " + words)
        for deed in all_deeds(4):
            text = f"lines 3\ndeeds {show_row((deed,))}"
            self.assertEqual(refused(text), None if 3 not in deed[1:] else 1)


class Places(unittest.TestCase):
    ROWS = {"L": "lines 2", "W": "wish a", "R": "rule 0 in * - pass 0", "A": "tale 0 turn - - 1", "T": "told hold",
            "D": "deeds turn"}

    def test_rows_in_all_places(self):
        begun = re.compile("(L(W(T|R*A*))*D?)?")
        read = 0
        for size in range(1, 7):
            for kinds in itertools.product("LWRATD", repeat=size):
                kinds = "".join(kinds)
                wrong = [at for at in range(size) if not begun.fullmatch(kinds[:at + 1])]
                row = wrong[0] if wrong else None if kinds[-1] == "D" else size
                read += row is None
                self.assertEqual(refused("\n".join(self.ROWS[kind] for kind in kinds)), row, kinds)
        self.assertEqual(read, 45)

    def test_where_rows_lack(self):
        for size in range(1, len(ROWS)):
            self.assertEqual(refused("\n".join(ROWS[:size])), size)

    def test_the_empty_text(self):
        self.assertEqual(refused(""), 0)
        self.assertEqual(refused("\n"), 0)
        self.assertEqual(refused("\n".join(("", *ROWS))), 0)

    def test_rows_behind_the_deeds(self):
        for row in (*ROWS, "", " ", "ask", "x"):
            self.assertEqual(refused("\n".join((*ROWS, row))), len(ROWS))

    def test_the_first_wrong_row_counts(self):
        for first, second in itertools.combinations(range(len(ROWS)), 2):
            rows = list(ROWS)
            rows[first] = rows[second] = "x"
            self.assertEqual(refused("\n".join(rows)), first)

    def test_any_text(self):
        for text in ("x", " ", "lines", "\u0000", "\ud800", "lines 2\x0bdeeds", "lines 2\rdeeds", "lines 2 deeds", "x" * 10000,
                     "lines 2;deeds", "\ufefflines 2\ndeeds"):
            self.assertEqual(refused(text), 0, text)
        self.assertEqual(refused("lines 2\n" * 2000), 1)


class NoHouse(unittest.TestCase):
    """Where each row could stand, and all of them make no house."""

    def check_whole(self, text):
        self.assertEqual(refused(text), len(text.split("\n")))

    def test_a_seventh_wish(self):
        for wish in ("wish a\n", "wish b\ntold hold\n", "wish a\nrule 0 in * - pass 0\ntale 0 turn - - !\n"):
            self.assertIsNone(refused("lines 2\n" + wish * 6 + "deeds"))
            self.check_whole("lines 2\n" + wish * 7 + "deeds")
            self.check_whole("lines 2\n" + wish * 9 + "deeds all")

    def test_a_thirteenth_rule(self):
        rule, tale = "rule 0 in * - pass 0\n", "tale 0 turn - - !\n"
        for wish in ("wish a\n", "wish b\nwish a\n"):
            self.assertIsNone(refused("lines 2\n" + wish + rule * 12 + tale + "deeds"))
            self.check_whole("lines 2\n" + wish + rule * 13 + "deeds")
            self.check_whole("lines 2\n" + wish + rule * 13 + tale + "wish a\ndeeds")

    def test_a_seventeenth_of_a_tale(self):
        rule, tale = "rule 0 in * - pass 0\n", "tale 0 turn - - !\n"
        for wish in ("wish a\n", "wish a\n" + rule, "wish b\ntold quiet\nwish a\n"):
            self.assertIsNone(refused("lines 2\n" + wish + tale * 16 + "deeds"))
            self.check_whole("lines 2\n" + wish + tale * 17 + "deeds")
            self.check_whole("lines 2\n" + wish + tale * 20 + "wish a\ndeeds")

    def test_deeds_twice_or_out_of_order(self):
        for deeds in ("turn turn", "turn wait", "dial:b:a dial:a:b", "take:b take:a", "take:a dial:a:b", "flash:a drop:a",
                      "dial:a:b turn dial:a:b", "wait wait turn", "drop:a take:a"):
            self.check_whole("lines 2\ndeeds " + deeds)
            self.check_whole("lines 2\nwish a\ntold hold\ndeeds " + deeds)

    def test_a_row_that_is_none_counts_ahead_of_that(self):
        seven = "lines 2\n" + "wish a\n" * 7
        self.assertEqual(refused(seven + "deeds x"), 8)
        self.assertEqual(refused(seven + "wish c\ndeeds"), 8)
        self.assertEqual(refused(seven + "deeds\n"), 9)
        self.assertEqual(refused(seven), 8)
        self.assertEqual(refused("lines 2\ndeeds turn turn x"), 1)
        self.assertEqual(refused("lines 2\ndeeds turn turn\ndeeds"), 2)


class RowIn(unittest.TestCase):
    def test_rows(self):
        for text, row in (("-", ()), ("turn", (("turn",),)), ("turn turn", (("turn",), ("turn",))),
                          ("turn wait dial:b:a", (("turn",), ("wait",), ("dial", 1, 0))),
                          ("dial:a:d take:d flash:d drop:a", (("dial", 0, 3), ("take", 3), ("flash", 3), ("drop", 0)))):
            self.assertEqual(row_in(text), row)
            self.assertTrue(has_told_kinds(row_in(text)))

    def test_of_every_deed(self):
        for n in (2, 3, 4):
            for deed in all_deeds(n):
                text = ":".join((deed[0], *["abcd"[line] for line in deed[1:]]))
                self.assertEqual(row_in(text), (deed,))
                self.assertEqual(row_in(text + " turn " + text), (deed, ("turn",), deed))

    def test_texts_that_are_none(self):
        for text in ("", " ", "--", "- turn", "turn -", " turn", "turn ", "turn  wait", "turn\twait", "turn\nwait", "turn,wait",
                     "turn;wait", "Turn", "TURN", "turn:", "turn:a", "wait:b", "dial", "dial:a", "dial:a:a", "dial:a:b:c",
                     "dial:a:e", "dial:A:b", "dial:ab", "dial:a:", "dial::b", "dial:0:1", "dial:a,b", "dial a b", "take",
                     "take:", "take:e", "take:a:b", "take:ab", "take:*", "drop", "drop:e", "flash", "flash:", "flash:abcd",
                     "night", "day", "done", "rings:a:b", "all", "deeds", "none", "None", ":a", ":", "turn\r", "\u0000", "-\n"):
            self.assertIsNone(row_in(text), text)
            self.assertIsNone(row_in("turn " + text), text)
            self.assertIsNone(row_in(text + " wait"), text)


if __name__ == "__main__":
    unittest.main()
