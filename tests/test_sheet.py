"""Point 33: sheets, their questions and answers, and sheets that are refused, with the row."""

import itertools
import unittest

from callwishes.alike import idle_wishes
from callwishes.books import quiet_paper
from callwishes.checking import checked
from callwishes.choices import choices
from callwishes.errors import NoSheet
from callwishes.orders import order_paper
from callwishes.quarrels import pairs, with_order
from callwishes.runs import broken, ran
from callwishes.sheet import answers
from callwishes.showing import show_row
from callwishes.waysout import longest_way
from callwishes.wishes import all_deeds
from helper import (
    ALWAYS, BACK, ENGAGED, HOLD, KEPTOUT, MANY_BY_ORDER, NEED_EACH_OTHER, PARK, SMALL_HOUSES, events_text, house_of,
    orbit, ordered_house, row_in, sheet_of,
)

BROKEN_BY_TURN = ("a", "tale 0 turn - - !")
HIDE = ("a", "0 out * - hide 0")
TOO_MANY = house_of(*[orbit(letter, kind, 0, 8) for letter in "ab" for kind in ("drop", "flash")], n=2, deeds="all")
QUESTIONS = ("quiet", "order", "pairs", "choices", "idle", "out")


class Answers(unittest.TestCase):
    def check(self, house, question, told):
        self.assertEqual(answers(sheet_of(house, question)), told)

    def test_run(self):
        house = house_of(ALWAYS, HIDE, n=3, deeds="dial:a:b")
        for row, told in (("-", "-"), ("turn", "turn night done"), ("turn turn", "turn day done"),
                          ("dial:a:b", "dial:a:b comes:a:b:hid sent:a:b:c:hid comes:a:c:hid rings:a:c:hid done"),
                          ("dial:b:c", "dial:b:c comes:b:c rings:b:c done"),
                          ("dial:a:b take:c", "take:c talks:a:c:hid done"), ("take:a", "take:a done"),
                          ("dial:a:b take:c drop:c", "drop:c ends:a:c frees:a frees:c done"),
                          ("dial:c:b wait", "wait done"), ("dial:a:c wait", "wait waits:a:c:hid done"),
                          ("flash:b", "flash:b done"), ("drop:c", "drop:c done")):
            self.check(house, "run " + row, told)

    def test_run_of_every_row(self):
        for name, house in SMALL_HOUSES.items():
            rows = [row for size in range(1, 4) for row in itertools.product(house[2], repeat=size)][:60]
            told = [events_text(ran(house, row)[1][-1]) for row in rows]
            questions = ["run " + show_row(row) for row in rows]
            if rows:
                self.assertEqual(answers(sheet_of(house, *questions)).split("\n"), told, name)

    def test_run_and_broken_of_deeds_that_the_house_hasnt(self):
        house = house_of(BROKEN_BY_TURN, n=2)
        self.check(house, "run dial:a:b", "dial:a:b comes:a:b rings:a:b done")
        self.check(house, "broken wait turn", "0")

    def test_broken(self):
        house = house_of(("a", "tale 0 rings a,b - !"), ("b", "tale 0 turn - - 1", "tale 1 turn - - !"), ("b",),
                         ("b", "tale 0 rings *,b - !"), n=2, deeds="all")
        for row, told in (("-", "-"), ("turn", "-"), ("dial:a:b", "0 3"), ("turn turn", "1"),
                          ("turn dial:a:b turn", "0 1 3"), ("dial:b:a", "-")):
            self.check(house, "broken " + row, told)

    def test_broken_by_every_row(self):
        for name, house in SMALL_HOUSES.items():
            rows = [row for size in range(4) for row in itertools.product(house[2], repeat=size)][:60]
            told = [" ".join(str(k) for k in broken(ran(house, row)[0])) or "-" for row in rows]
            questions = ["broken " + show_row(row) for row in rows]
            self.assertEqual(answers(sheet_of(house, *questions)).split("\n"), told, name)

    def test_quiet(self):
        self.check(house_of(n=2), "quiet", "quiet 1")
        self.check(house_of(n=2, deeds="all"), "quiet", "quiet 10")
        self.check(house_of(n=4, deeds="all"), "quiet", "quiet 1134")
        self.check(SMALL_HOUSES["broken by order"], "quiet", "quarrel 1 dial:a:b")
        self.check(SMALL_HOUSES["two rows of one size"], "quiet", "quarrel 0 dial:a:b turn take:b")
        for house in SMALL_HOUSES.values():
            paper = quiet_paper(house)
            told = f"quiet {len(paper[1])}" if paper[0] == "quiet" else f"quarrel {paper[2]} {show_row(paper[1])}"
            self.check(house, "quiet", told)

    def test_order(self):
        for many in range(5):
            self.check(ordered_house(many), "order", " ".join(["order", *"0123"[:many]]))
        self.check(ordered_house(2, (1, 0)), "order", "order 1 0")
        self.check(ordered_house(4, (3, 2), (2, 1), (1, 0)), "order", "order 3 2 1 0")
        self.check(ordered_house(4, (3, 1)), "order", "order 0 2 3 1")
        self.check(house_of(BROKEN_BY_TURN, n=2, deeds="all"), "order", "none turn")
        self.check(ordered_house(2, (0, 1), (1, 0)), "order", "none dial:c:b; dial:a:b")

    def test_order_of_none_of_several(self):
        house = ordered_house(3, (0, 1), (1, 2), (2, 0))
        rows = [show_row(quarrel[1]) for quarrel in order_paper(house)[1]]
        self.assertEqual(len(rows), 6)
        self.assertGreater(len(set(rows)), 1)
        self.check(house, "order", "none " + "; ".join(rows))
        longer = house_of(("b", "tale 0 talks *,b night !"), ("a",), n=3, deeds="dial:a:b dial:c:b take:b turn")
        self.check(longer, "order", "none dial:a:b turn take:b; dial:a:b turn take:b")

    def test_pairs(self):
        self.check(house_of(n=2, deeds="all"), "pairs", "-")
        self.check(house_of(BROKEN_BY_TURN, n=2, deeds="all"), "pairs", "-")
        self.check(ordered_house(2, (1, 0)), "pairs", "0 1 second")
        self.check(ordered_house(3, (0, 1), (2, 1), (1, 2)), "pairs", "0 1 first; 0 2 both; 1 2 none")
        house = ordered_house(6, (4, 2), (5, 0))
        self.check(house, "pairs", "; ".join(f"{i} {j} {told}" for i, j, told in pairs(house)))

    def test_choices(self):
        self.check(house_of(n=2, deeds="all"), "choices", "none")
        self.check(ordered_house(3, (1, 0)), "choices", "none")
        self.check(ordered_house(2, (0, 1), (1, 0)), "choices", "0 1")
        self.check(house_of(BROKEN_BY_TURN, BROKEN_BY_TURN, n=2, deeds="turn"), "choices", "0,1")
        self.check(house_of(BROKEN_BY_TURN, n=2, deeds="turn"), "choices", "0")
        house = house_of(("b", "0 in a - shut 0", "tale 0 rings a,b - !"), ALWAYS,
                         ("b", "tale 0 shut a,b - !", "tale 0 sent a,b,* - !"), n=3, deeds="all")
        self.assertEqual(choices(house), [(2,), (0, 1)])
        self.check(house, "choices", "2 0,1")

    def test_idle(self):
        self.check(house_of(n=2, deeds="all"), "idle", "-")
        self.check(house_of(ALWAYS, n=3, deeds="all"), "idle", "-")
        self.check(house_of(ALWAYS, KEPTOUT, n=3, deeds="all"), "idle", "1")
        house = house_of(("a",), ALWAYS, KEPTOUT, HIDE, ("c", "0 met * - pass 1"), ("b",), n=3, deeds="dial:a:b dial:c:b turn")
        self.assertEqual(idle_wishes(house), (0, 2, 4, 5))
        self.check(house, "idle", "0 2 4 5")

    def test_out(self):
        self.check(house_of(n=2), "out", "0")
        self.check(house_of(n=2, deeds="all"), "out", "2")
        self.check(house_of(PARK, n=2, deeds="all"), "out", "3")
        endless = house_of(("a", "0 free b - ring 0"), n=2, deeds="all")
        self.assertIsNone(longest_way(endless)[0])
        self.check(endless, "out", "never")
        longer = house_of(("a", *[f"{state} free b - ring {state + 1}" for state in range(7)]), n=2, deeds="all")
        self.assertGreater(longest_way(longer)[0], 9)
        self.check(longer, "out", str(longest_way(longer)[0]))

    def test_too_many(self):
        for p, told in (((0, 1), ("quiet 400", "order 0 1", "toomany", "none", "1", "2")),
                        ((1, 0), ("toomany", "toomany", "toomany", "toomany", "0", "toomany"))):
            self.assertEqual(answers(sheet_of(with_order(MANY_BY_ORDER, p), *QUESTIONS)).split("\n"), list(told))
        # Rows of deeds are told all the same, and pairs of two that have few scenes.
        questions = ("idle", "run turn", "broken turn", "quiet", "pairs")
        twos = "0 1 both; 0 2 both; 0 3 both; 1 2 both; 1 3 both; 2 3 both"
        self.assertEqual(answers(sheet_of(TOO_MANY, *questions)).split("\n"),
                         ["toomany", "turn night done", "-", "toomany", twos])

    def test_several_questions(self):
        house = SMALL_HOUSES["broken by order"]
        questions = ("run dial:a:b", "quiet", "order", "quiet", "pairs", "choices", "idle", "out", "broken -", "run -")
        told = [answers(sheet_of(house, question)) for question in questions]
        self.assertEqual(answers(sheet_of(house, *questions)), "\n".join(told))
        self.assertEqual(told, ["dial:a:b comes:a:b shut:a:b done", "quarrel 1 dial:a:b", "order 1 0", "quarrel 1 dial:a:b",
                                "0 1 second", "none", "1", "1", "-", "-"])

    def test_no_questions(self):
        self.assertEqual(answers(sheet_of(house_of(n=2))), "")

    def test_told_rows_in_the_houses_text(self):
        text = "lines 3\nwish b\ntold keptout a\nwish b\ntold always c\nwish c\ntold back b\ndeeds all\nask\nquiet\norder\npairs"
        self.assertEqual(answers(text), "quarrel 1 dial:a:b\norder 1 0 2\n0 1 second; 0 2 both; 1 2 both")

    def test_asked_again_the_same_is_told(self):
        text = sheet_of(SMALL_HOUSES["kept by order"], *QUESTIONS)
        self.assertEqual(answers(text), answers(text))
        self.assertIs(type(answers(text)), str)


def refused(text):
    """The row by which a sheet is refused, by answers and checked alike, or None."""
    rows = []
    for asking in (answers, lambda text: checked(text, ""), lambda text: checked(text, "quiet 1\n-")):
        try:
            asking(text)
        except NoSheet as refusal:
            rows.append(refusal.row)
        else:
            rows.append(None)
    assert len(set(rows)) == 1, rows
    return rows[0]


class Refused(unittest.TestCase):
    HOUSE = ["lines 3", "wish b", "rule 0 in * - send:c 0", "tale 0 turn - - !", "wish a", "told hold", "deeds turn"]

    def sheet(self, *questions):
        return "\n".join([*self.HOUSE, "ask", *questions])

    def test_no_ask(self):
        self.assertEqual(refused(""), 1)
        self.assertEqual(refused("\n"), 2)
        self.assertEqual(refused("lines 2\ndeeds"), 2)
        self.assertEqual(refused("lines 2\ndeeds\n"), 3)
        self.assertEqual(refused("\n".join(self.HOUSE)), 7)
        for row in ("Ask", "ASK", "ask ", " ask", "asks", "ask:", "ask quiet", "ask\t", "ask\r", "as k", "aska"):
            self.assertEqual(refused("\n".join([*self.HOUSE, row, "quiet"])), 9, row)

    def test_no_ask_ahead_of_all_else(self):
        self.assertEqual(refused("x\ny\nz"), 3)
        self.assertEqual(refused("lines 9\nwish z\ndeeds x\nquiet"), 4)
        self.assertEqual(refused("lines 2\n" * 50), 51)

    def test_rows_of_the_house(self):
        for at in range(7):
            for spoilt in ("x", "", " ", self.HOUSE[at] + " ", self.HOUSE[at] + " x", "quiet"):
                rows = [*self.HOUSE[:at], spoilt, *self.HOUSE[at + 1:], "ask", "quiet"]
                self.assertEqual(refused("\n".join(rows)), at, spoilt)
                self.assertEqual(refused("\n".join([*rows, "x", "y"])), at, spoilt)

    def test_rows_of_the_house_that_lack(self):
        for size in range(7):
            self.assertEqual(refused("\n".join([*self.HOUSE[:size], "ask", "quiet"])), size)
            self.assertEqual(refused("\n".join([*self.HOUSE[:size], "ask", *self.HOUSE[size:], "ask", "quiet"])), size)
        self.assertEqual(refused("ask"), 0)
        self.assertEqual(refused("ask\nquiet"), 0)
        self.assertEqual(refused("\nask\nquiet"), 0)

    def test_rows_that_make_no_house(self):
        self.assertEqual(refused("lines 2\n" + "wish a\n" * 7 + "deeds\nask\nquiet"), 9)
        self.assertEqual(refused("lines 2\ndeeds turn turn\nask\nquiet"), 2)
        self.assertEqual(refused("lines 2\nwish a\n" + "rule 0 in * - pass 0\n" * 13 + "deeds\nask"), 16)
        self.assertEqual(refused("lines 2\nwish a\n" + "tale 0 turn - - 0\n" * 17 + "deeds\nask"), 20)

    def test_questions_that_are_none(self):
        for question in ("", " ", "x", "ask", "Quiet", "QUIET", "quiet ", " quiet", "quiet 1", "quiet -", "quiet turn", "order ",
                         "order 0", "orders", "pairs -", "pair", "choice", "choices none", "idle ", "idles", "out ", "out a",
                         "quiet\t", "quiet\r", "run", "run ", "broken", "broken ", "Run -", "run  -", "run - ", "run -\r",
                         "run --", "run turn ", "run  turn", "run turn  turn", "run x", "run turn x", "run dial:a:a",
                         "run dial:a", "run turn,turn", "run:turn", "runturn", "broken x", "broken  -", "broken - turn",
                         "broken turn -", "broken 0", "run 0", "run Turn", "toomany", "alone", "whose turn", "deeds all",
                         "lines 3", "whose -", "quarrel 0 turn"):
            self.assertEqual(refused(self.sheet(question)), 8, question)
            self.assertEqual(refused(self.sheet("quiet", question)), 9, question)
            self.assertEqual(refused(self.sheet("run -", "out", question, "x")), 10, question)

    def test_a_row_of_lines_that_the_house_hasnt(self):
        for word in ("run", "broken"):
            for n in (2, 3, 4):
                for deed in all_deeds(4):
                    is_so = all(line < n for line in deed[1:])
                    text = f"lines {n}\ndeeds\nask\nquiet\n{word} turn {show_row((deed,))}"
                    self.assertEqual(refused(text), None if is_so else 4, text)

    def test_order_of_four_and_of_five_wishes(self):
        for many in range(7):
            house = house_of(*[("a",)] * many, n=2)
            at = 2 + many + 2
            self.assertEqual(refused(sheet_of(house, "quiet", "order", "pairs")), None if many <= 4 else at, many)
            self.assertEqual(refused(sheet_of(house, "quiet", "pairs", "idle", "out", "run -", "broken turn")), None)

    def test_choices_of_three_and_of_four_wishes(self):
        for many in range(7):
            house = house_of(*[("a",)] * many, n=2)
            at = 2 + many + 2
            self.assertEqual(refused(sheet_of(house, "quiet", "choices", "pairs")), None if many <= 3 else at, many)
        self.assertEqual(refused(sheet_of(house_of(*[("a",)] * 4, n=2), "order", "choices")), 8)
        self.assertEqual(refused(sheet_of(house_of(*[("a",)] * 5, n=2), "choices", "order")), 8)

    def test_a_row_behind_the_last_question(self):
        self.assertEqual(refused(self.sheet()), None)
        self.assertEqual(refused(self.sheet("")), 8)
        self.assertEqual(refused(self.sheet("quiet", "")), 9)

    def test_a_second_ask(self):
        self.assertEqual(refused(self.sheet("ask", "quiet")), 8)
        self.assertEqual(refused(self.sheet("quiet", "ask")), 9)

    def test_refused_where_an_answer_would_be_toomany(self):
        self.assertEqual(refused(sheet_of(TOO_MANY, "quiet", "x")), len(sheet_of(TOO_MANY, "quiet").split("\n")))


class WithOtherWishes(unittest.TestCase):
    def test_of_several_houses(self):
        houses = (house_of(BACK, HOLD, n=3, deeds="all"), house_of(ENGAGED, PARK, n=3, deeds="all"),
                  house_of(*NEED_EACH_OTHER, n=3, deeds="dial:a:b dial:c:b"))
        for house in houses:
            paper = quiet_paper(house)
            order = order_paper(house)
            rows = answers(sheet_of(house, *QUESTIONS)).split("\n")
            self.assertEqual(rows[0], f"quiet {len(paper[1])}")
            self.assertEqual(rows[1], " ".join(["order", *[str(number) for number in order[1]]]))
            self.assertEqual(rows[2], "; ".join(f"{i} {j} {told}" for i, j, told in pairs(house)))
            self.assertEqual(rows[3], " ".join(",".join(str(k) for k in given) or "none" for given in choices(house)))
            self.assertEqual(rows[4], " ".join(str(k) for k in idle_wishes(house)) or "-")
            self.assertEqual(rows[5], str(longest_way(house)[0]))

    def test_rows_of_answers_are_rows_of_deeds(self):
        rows = answers(sheet_of(ordered_house(3, (0, 1), (1, 2), (2, 0)), "order"))
        for row in rows.removeprefix("none ").split("; "):
            self.assertEqual(len(row_in(row)), 1)


if __name__ == "__main__":
    unittest.main()
