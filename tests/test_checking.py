"""Point 34: which told answers are right."""

import itertools
import unittest

from callwishes.books import quiet_paper
from callwishes.checking import checked
from callwishes.orders import order_paper
from callwishes.quarrels import with_order
from callwishes.runs import broken, ran
from callwishes.sheet import answers
from callwishes.showing import show_row
from callwishes.wishes import all_deeds
from helper import (
    ALWAYS, BACK, ENGAGED, HOLD, KEPTOUT, MANY_BY_ORDER, PARK, SMALL_HOUSES, house_of, orbit, ordered_house, row_in,
    sheet_of,
)

BROKEN_BY_TURN = ("a", "tale 0 turn - - !")
QUESTIONS = ("run turn dial:a:b", "broken turn dial:a:b", "quiet", "order", "pairs", "choices", "idle", "out", "run -",
             "broken -")
TOO_MANY = house_of(*[orbit(letter, kind, 0, 8) for letter in "ab" for kind in ("drop", "flash")], n=2,
                    deeds="drop:a drop:b flash:a flash:b")
# What no question is answered by.
NO_ANSWERS = ("", " ", "x", "-1", "quiet", "quiet ", "quiet 0", "quiet x", "quarrel", "quarrel 0", "quarrel 0 ", "quarrel 0 -",
              "quarrel - turn", "quarrel turn", "none ", "none x", "none -", "none ;", "order x", "order -", "order 9", "never 1",
              "toomany ", "TOOMANY", "True", "False", "None", "ask", "0 1", "0 1 x", "0 1 both;", "0 1 both; ", "\u0000", "\ud800",
              "quarrel 0 dial:a:e", "quarrel 9 turn", "quarrel 0 turn; turn", "order 0 0", "order 0,1", "order  0", "\t", "\r")


class Taken(unittest.TestCase):
    def check(self, house, question, told, is_taken):
        self.assertEqual(checked(sheet_of(house, question), told), (is_taken,), (question, told))

    def test_what_answers_tells_is_taken(self):
        houses = [*SMALL_HOUSES.values(), ordered_house(3, (1, 0)), ordered_house(3, (0, 1), (1, 2), (2, 0)),
                  house_of(BROKEN_BY_TURN, BROKEN_BY_TURN, n=2, deeds="turn"),
                  house_of(("a", "0 free b - ring 0"), n=2, deeds="all"), house_of(PARK, BACK, n=3, deeds="all")]
        for house in houses:
            text = sheet_of(house, *QUESTIONS)
            told = answers(text)
            self.assertEqual(checked(text, told), (True,) * len(QUESTIONS), told)

    def test_what_answers_tells_of_four_wishes(self):
        questions = [question for question in QUESTIONS if question != "choices"]
        for befores in ((), ((3, 2), (2, 1), (1, 0)), ((0, 3), (3, 0))):
            text = sheet_of(ordered_house(4, *befores), *questions)
            self.assertEqual(checked(text, answers(text)), (True,) * len(questions))

    def test_too_many(self):
        for question in ("quiet", "order", "idle", "out"):
            self.check(TOO_MANY, question, "toomany", True)
            for told in ("", "quiet 2000", "order 3 2 1 0", "-", "never", "quarrel 0 drop:a", "toomany ", "Toomany",
                         "none " + "; ".join(["drop:a"] * 24)):
                self.check(TOO_MANY, question, told, False)
        for house, question, told in ((house_of(n=2), "quiet", "toomany"), (house_of(n=2), "order", "toomany"),
                                      (SMALL_HOUSES["broken at once"], "quiet", "toomany"),
                                      (SMALL_HOUSES["broken at once"], "order", "toomany"),
                                      (house_of(n=2), "idle", "toomany"), (house_of(n=2), "out", "toomany"),
                                      (house_of(n=2), "run turn", "toomany"), (house_of(n=2), "pairs", "toomany")):
            self.check(house, question, told, False)

    def test_no_answers(self):
        house = ordered_house(2, (1, 0), n=3)
        for question, told in itertools.product(QUESTIONS, NO_ANSWERS):
            self.check(house, question, told, False)
        for question, told in itertools.product(QUESTIONS, NO_ANSWERS):
            self.check(SMALL_HOUSES["two rows of one size"], question, told, False)

    def test_an_answer_of_another_question(self):
        house = ordered_house(3, (1, 0), (0, 2))
        told = [answers(sheet_of(house, question)) for question in QUESTIONS]
        self.assertGreater(len(set(told)), 7)
        for one, question in enumerate(QUESTIONS):
            for other in range(len(QUESTIONS)):
                self.check(house, question, told[other], told[one] == told[other])

    def test_a_sign_more_or_less_or_another(self):
        for house in (ordered_house(3, (1, 0)), SMALL_HOUSES["two rows of one size"], ordered_house(2, (0, 1), (1, 0))):
            for question in QUESTIONS:
                told = answers(sheet_of(house, question))
                spoilt = {told[:at] + sign + told[at:] for at in range(len(told) + 1) for sign in " 0x-,;:"}
                spoilt |= {told[:at] + told[at + 1:] for at in range(len(told))}
                spoilt |= {told[:at] + told[at].upper() + told[at + 1:] for at in range(len(told))}
                for each in spoilt - {told}:
                    self.check(house, question, each, False)

    def test_blanks_more(self):
        for house in (house_of(n=2), ordered_house(2, (1, 0)), SMALL_HOUSES["broken at once"]):
            for question in QUESTIONS:
                told = answers(sheet_of(house, question))
                for spoilt in (told + " ", " " + told, told.replace(" ", "  "), told + "\t", told + "\r", told.replace(" ", "\t")):
                    if spoilt != told:
                        self.check(house, question, spoilt, False)

    def test_noughts_ahead_of_a_number(self):
        house = house_of(BROKEN_BY_TURN, ("a",), n=2, deeds="turn")
        for question, right, spoilt in (("broken turn", "0", "00"), ("quiet", "quarrel 0 turn", "quarrel 00 turn"),
                                        ("pairs", "0 1 none", "0 01 none"), ("choices", "0", "00"), ("idle", "0 1", "0 01")):
            self.check(house, question, right, True)
            self.check(house, question, spoilt, False)
        house = ordered_house(2, (1, 0))
        for question, right, spoilt in (("order", "order 1 0", "order 01 0"), ("order", "order 1 0", "order 1 00"),
                                        ("quiet", "quarrel 1 dial:a:b", "quarrel 01 dial:a:b"), ("out", "2", "02")):
            self.check(house, question, right, True)
            self.check(house, question, spoilt, False)
        self.check(house_of(n=2, deeds="all"), "quiet", "quiet 10", True)
        self.check(house_of(n=2, deeds="all"), "quiet", "quiet 010", False)
        self.check(house_of(n=2, deeds="all"), "out", "+2", False)


class Quarrels(unittest.TestCase):
    def test_any_shortest_row_and_a_wish_broken_by_it(self):
        taken = 0
        for name in ("broken by order", "broken at once", "two rows of one size", "broken late"):
            house = SMALL_HOUSES[name]
            paper = quiet_paper(house)
            self.assertEqual(paper[0], "quarrel")
            rows = [row for size in range(len(paper[1]) + 2) for row in itertools.product(house[2], repeat=size)][:400]
            for row in rows:
                wishes = broken(ran(house, row)[0]) if len(row) == len(paper[1]) else ()
                for k in range(9):
                    told = f"quarrel {k} {show_row(row)}"
                    self.assertEqual(checked(sheet_of(house, "quiet"), told), (k in wishes,), (name, told))
                    taken += k in wishes
        self.assertGreater(taken, 8)

    def test_other_shortest_rows(self):
        house = SMALL_HOUSES["two rows of one size"]
        for row, is_taken in (("dial:a:b turn take:b", True), ("dial:c:b turn take:b", True), ("turn dial:a:b take:b", True),
                              ("turn dial:c:b take:b", True), ("turn take:b dial:a:b", False), ("dial:a:b take:b", False),
                              ("turn turn turn dial:a:b take:b", False), ("dial:a:b turn take:b turn", False),
                              ("-", False), ("dial:a:b  turn take:b", False), ("dial:a:b turn take:b ", False)):
            self.assertEqual(checked(sheet_of(house, "quiet"), "quarrel 0 " + row), (is_taken,), row)

    def test_wrong_wishes(self):
        house = SMALL_HOUSES["broken at once"]
        for k, is_taken in (("0", False), ("1", True), ("2", True), ("3", False), ("01", False), ("-1", False), ("", False),
                            ("1 2", False), ("1,2", False), ("a", False), ("*", False), ("None", False), ("+1", False)):
            self.assertEqual(checked(sheet_of(house, "quiet"), f"quarrel {k} dial:a:b"), (is_taken,), k)

    def test_rows_of_deeds_that_the_house_hasnt(self):
        house = house_of(("b", "tale 0 rings *,b - !"), n=3, deeds="dial:a:b turn")
        for row, is_taken in (("dial:a:b", True), ("dial:c:b", False), ("dial:d:b", False), ("wait", False)):
            self.assertEqual(checked(sheet_of(house, "quiet"), "quarrel 0 " + row), (is_taken,), row)
            self.assertEqual(checked(sheet_of(house, "order"), "none " + row), (is_taken,), row)

    def test_of_a_quiet_house(self):
        house = SMALL_HOUSES["kept by order"]
        text = sheet_of(house, "quiet")
        many = len(quiet_paper(house)[1])
        for told, is_taken in ((f"quiet {many}", True), (f"quiet {many + 1}", False), (f"quiet {many - 1}", False),
                               ("quarrel 1 dial:a:b", False), ("quarrel 0 -", False), ("quiet", False),
                               (f"quiet {many} ", False), (f"quiet 0{many}", False), (f"Quiet {many}", False)):
            self.assertEqual(checked(text, told), (is_taken,), told)

    def test_a_row_as_long_as_a_quiet_houses_book(self):
        # Where a house is quiet no row is a shortest one, whatever its size.
        for house in (house_of(n=2), house_of(("a",), n=2, deeds="turn")):
            for size in range(4):
                told = "quarrel 0 " + show_row((("turn",),) * size)
                self.assertEqual(checked(sheet_of(house, "quiet"), told), (False,))

    def test_a_quarrel_isnt_quiet(self):
        for told in ("quiet 1", "quiet 2", "quiet 3"):
            self.assertEqual(checked(sheet_of(SMALL_HOUSES["broken at once"], "quiet"), told), (False,))


class Orders(unittest.TestCase):
    def test_any_quiet_order(self):
        for befores in ((), ((1, 0),), ((0, 1), (2, 1)), ((2, 1), (1, 0)), ((0, 1), (1, 0))):
            house = ordered_house(3, *befores)
            text = sheet_of(house, "order")
            for size in range(5):
                for p in itertools.product(range(4), repeat=size):
                    is_order = sorted(p) == [0, 1, 2]
                    is_taken = is_order and all(p.index(i) < p.index(j) for i, j in befores)
                    told = " ".join(["order", *[str(number) for number in p]])
                    self.assertEqual(checked(text, told), (is_taken,), told)

    def test_of_four_wishes(self):
        text = sheet_of(ordered_house(4, (3, 0), (2, 1)), "order")
        for p in itertools.permutations(range(4)):
            is_taken = p.index(3) < p.index(0) and p.index(2) < p.index(1)
            self.assertEqual(checked(text, "order " + " ".join(str(number) for number in p)), (is_taken,), p)

    def test_of_no_wishes(self):
        text = sheet_of(house_of(n=2, deeds="all"), "order")
        for told, is_taken in (("order", True), ("order ", False), ("order 0", False), ("none", False), ("none -", False),
                               ("order -", False), ("", False)):
            self.assertEqual(checked(text, told), (is_taken,), told)

    def test_written_otherwise(self):
        text = sheet_of(ordered_house(2, (1, 0)), "order")
        for told in ("order 1  0", "order 1 0 ", " order 1 0", "order  1 0", "order 1,0", "order 10", "Order 1 0", "order:1 0",
                     "1 0", "order 01 0", "order +1 0", "order 1 0 2", "order 1", "order", "order 0 1", "order 1 -0",
                     "order \u0661 \u0660", "orders 1 0", "none dial:a:b; dial:a:b", "none"):
            self.assertEqual(checked(text, told), (False,), told)
        self.assertEqual(checked(text, "order 1 0"), (True,))

    def test_an_order_of_too_many_scenes(self):
        text = sheet_of(MANY_BY_ORDER, "order")
        self.assertEqual(checked(text, "order 0 1"), (True,))
        self.assertEqual(checked(text, "order 1 0"), (False,))
        self.assertEqual(checked(text, "toomany"), (False,))
        # Where the first order is too many, any quiet one behind it is right all the same.
        text = sheet_of(with_order(MANY_BY_ORDER, (1, 0)), "order")
        self.assertEqual(answers(text), "toomany")
        for told, is_taken in (("toomany", True), ("order 1 0", True), ("order 0 1", False), ("none turn; turn", False)):
            self.assertEqual(checked(text, told), (is_taken,), told)

    def test_of_none_any_shortest_rows(self):
        house = house_of(("b", "tale 0 rings *,b night !"), ("a",), n=3, deeds="dial:a:b dial:c:b turn")
        right = ("turn dial:a:b", "turn dial:c:b")
        wrong = ("dial:a:b", "turn", "-", "turn turn", "dial:a:b turn", "turn turn turn dial:a:b", "turn dial:a:b turn", "x", "",
                 "turn dial:b:a")
        text = sheet_of(house, "order")
        self.assertEqual(answers(text), "none turn dial:a:b; turn dial:a:b")
        for one, other in itertools.product(right + wrong, repeat=2):
            is_taken = one in right and other in right
            self.assertEqual(checked(text, f"none {one}; {other}"), (is_taken,), (one, other))

    def test_of_none_each_order_has_its_own_row(self):
        house = ordered_house(2, (0, 1), (1, 0))
        text = sheet_of(house, "order")
        for one, other in itertools.product(("dial:a:b", "dial:c:b", "dial:d:b"), repeat=2):
            self.assertEqual(checked(text, f"none {one}; {other}"), ((one, other) == ("dial:c:b", "dial:a:b"),))

    def test_of_none_rows_too_few_or_too_many(self):
        house = ordered_house(3, (0, 1), (1, 2), (2, 0))
        text = sheet_of(house, "order")
        rows = [show_row(paper[1]) for paper in order_paper(house)[1]]
        for size in range(8):
            told = "none " + "; ".join((rows + rows)[:size])
            self.assertEqual(checked(text, told), (size == 6,), told)
        self.assertEqual(checked(text, "none " + "; ".join(rows) + "; "), (False,))
        self.assertEqual(checked(text, "none " + "; ".join(rows) + ";"), (False,))
        self.assertEqual(checked(text, "none " + ";".join(rows)), (False,))
        self.assertEqual(checked(text, "none " + " ; ".join(rows)), (False,))
        self.assertEqual(checked(text, "none  " + "; ".join(rows)), (False,))
        self.assertEqual(checked(text, "none; " + "; ".join(rows)), (False,))

    def test_where_there_is_an_order_none_is_wrong(self):
        house = ordered_house(2, (0, 1))
        text = sheet_of(house, "order")
        self.assertEqual(checked(text, "order 0 1"), (True,))
        for told in ("none dial:a:b; dial:a:b", "none -; dial:a:b", "none dial:a:b", "none"):
            self.assertEqual(checked(text, told), (False,), told)


class OtherQuestions(unittest.TestCase):
    def test_pairs_choices_and_idle_just_as_answers_tells(self):
        house = house_of(("b", "0 in a - shut 0", "tale 0 rings a,b - !"), ALWAYS,
                         ("b", "tale 0 shut a,b - !", "tale 0 sent a,b,* - !"), n=3, deeds="dial:a:b dial:c:b take:c")
        text = sheet_of(house, "pairs", "choices", "idle", "out")
        told = answers(text).split("\n")
        self.assertEqual(told[:3], ["0 1 second; 0 2 none; 1 2 none", "2 0,1", "2"])
        for at, others in enumerate((("0 2 none; 0 1 second; 1 2 none", "0 1 second; 0 2 none", "1 0 first; 0 2 none; 1 2 none",
                                      "0 1 second;0 2 none;1 2 none", "0 1 both; 0 2 none; 1 2 none", "-"),
                                     ("0,1 2", "2 1,0", "2", "0,1", "2 0,1 0,1", "none", "2,0,1", "2 0, 1", "2; 0,1", "-"),
                                     ("-", "2 ", "0 2", "2,", "none", "1", "")
                                     )):
            for other in others:
                spoilt = "\n".join([*told[:at], other, *told[at + 1:]])
                self.assertEqual(checked(text, spoilt), tuple(k != at for k in range(4)), other)

    def test_run_just_as_answers_tells(self):
        house = house_of(("a", "0 out * - hide 0"), n=2, deeds="all")
        text = sheet_of(house, "run dial:a:b")
        right = "dial:a:b comes:a:b:hid rings:a:b:hid done"
        self.assertEqual(checked(text, right), (True,))
        for told in ("dial:a:b comes:a:b rings:a:b:hid done", "dial:a:b comes:a:b:hid rings:a:b:hid", right + " done", "-", "",
                     "comes:a:b:hid dial:a:b rings:a:b:hid done", "dial:a:b comes:a:b:hid rings:a:b:hid:hid done"):
            self.assertEqual(checked(text, told), (False,), told)
        self.assertEqual(checked(sheet_of(house, "run -"), "-"), (True,))
        for told in ("", "done", "--", "- "):
            self.assertEqual(checked(sheet_of(house, "run -"), told), (False,))


class Rows(unittest.TestCase):
    HOUSE = SMALL_HOUSES["broken at once"]
    TEXT = sheet_of(HOUSE, "quiet", "broken dial:a:b", "run turn", "out")
    TOLD = ["quarrel 1 dial:a:b", "1 2", "turn night done", "2"]

    def test_rows_too_few(self):
        for size in range(5):
            self.assertEqual(checked(self.TEXT, "\n".join(self.TOLD[:size])), tuple(at < size for at in range(4)), size)

    def test_a_row_too_many(self):
        for more in ("", "x", "2", " ", "-"):
            for at in range(5):
                told = "\n".join([*self.TOLD[:at], more, *self.TOLD[at:]])
                self.assertEqual(checked(self.TEXT, told), (False,) * 4)
        self.assertEqual(checked(self.TEXT, "\n".join(self.TOLD) + "\n"), (False,) * 4)
        self.assertEqual(checked(self.TEXT, "\n" * 100), (False,) * 4)

    def test_each_row_for_itself(self):
        for wrong in itertools.product((False, True), repeat=4):
            told = ["x" if is_wrong else row for is_wrong, row in zip(wrong, self.TOLD)]
            self.assertEqual(checked(self.TEXT, "\n".join(told)), tuple(not is_wrong for is_wrong in wrong))

    def test_rows_in_another_order(self):
        for order in itertools.permutations(range(4)):
            told = "\n".join(self.TOLD[at] for at in order)
            self.assertEqual(checked(self.TEXT, told), tuple(at == k for at, k in enumerate(order)))

    def test_rows_are_parted_by_line_feeds_alone(self):
        for parting in ("\r\n", "\r", "\x0b", "\x0c", "\u2028", "\x85", "\x1e"):
            told = checked(self.TEXT, parting.join(self.TOLD))
            self.assertEqual(told, (False, False, False, parting == "\r\n"))

    def test_of_no_questions(self):
        for told in ("", "x", "\n", "quiet 1\n"):
            self.assertEqual(checked(sheet_of(self.HOUSE), told), ())

    def test_any_text(self):
        for told in ("", "\u0000", "\ud800", "x" * 10000, "\n", " \n ", "quarrel " * 500, "none " + "; " * 500, "order " + "0 " * 500):
            self.assertEqual(checked(self.TEXT, told), (False,) * 4)
            self.assertEqual(checked(sheet_of(self.HOUSE, "order"), told), (False,))

    def test_what_is_told(self):
        told = checked(self.TEXT, "\n".join(self.TOLD))
        self.assertIs(type(told), tuple)
        self.assertTrue(all(each is True for each in told))
        self.assertEqual(checked(self.TEXT, "\n".join(self.TOLD)), told)
        for each in checked(self.TEXT, "x\nx\nx\nx") + checked(self.TEXT, "x"):
            self.assertIs(each, False)


class WithAllDeeds(unittest.TestCase):
    def test_of_houses_with_all_deeds(self):
        for wishes in ((KEPTOUT, ALWAYS), (ENGAGED, HOLD), (ALWAYS, KEPTOUT, BROKEN_BY_TURN)):
            house = house_of(*wishes, n=3, deeds="all")
            text = sheet_of(house, *QUESTIONS)
            self.assertEqual(checked(text, answers(text)), (True,) * len(QUESTIONS))
        house = house_of(KEPTOUT, ALWAYS, n=3, deeds="all")
        text = sheet_of(house, "quiet")
        for deed in all_deeds(3):
            is_taken = bool(broken(ran(house, (deed,))[0]))
            self.assertEqual(checked(text, "quarrel 1 " + show_row((deed,))), (is_taken,), deed)
            self.assertEqual(is_taken, deed in row_in("dial:a:b dial:c:b"))
        self.assertEqual(checked(sheet_of(with_order(house, (1, 0)), "order"), "order 0 1"), (True,))


if __name__ == "__main__":
    unittest.main()
