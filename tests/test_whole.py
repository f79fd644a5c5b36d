"""Point 3: what is promised over the whole, of houses of told wishes, from their texts to their papers."""

import itertools
import unittest

from callwishes.alike import alike_paper, idle_wishes, without
from callwishes.alikelooks import shows_alike
from callwishes.booklooks import shows_quiet
from callwishes.books import quiet_paper, scenes_of
from callwishes.checking import checked
from callwishes.choicelooks import shows_choices
from callwishes.choices import choice_papers, choices
from callwishes.orderlooks import shows_order
from callwishes.orders import order_paper
from callwishes.quarrels import with_order
from callwishes.reading import read_house, row_in
from callwishes.rooms import talks_of
from callwishes.runs import broken, ran
from callwishes.sheet import answers
from callwishes.showing import show_house, show_row
from callwishes.waysout import longest_way, two_talks
from helper import sheet_of

QUESTIONS = ("run dial:a:b", "broken turn dial:a:b", "quiet", "order", "pairs", "choices", "idle", "out")
DEEDS = "dial:a:b dial:b:c dial:c:b take:b take:c drop:a drop:b flash:b wait turn"

# Each wish's line, its name, and its lines if it has any.
HOUSES = (
    ("b always c",),
    ("b keptout a", "b always c"),
    ("a hide", "b names"),
    ("a hide", "b unhid", "b names"),
    ("b quiet", "b night c"),
    ("b engaged c", "b second"),
    ("b hold", "b three"),
    ("b three", "b hold", "b park"),
    ("b park", "b back c"),
    ("b barred ac", "b shared c", "b late a"),
    ("b always c", "b always a", "b quiet"),
    ("b back c", "b second", "a always c"),
)


def told_text(wishes, deeds):
    """The text of a house of three lines with these told wishes."""
    rows = ["lines 3"]
    for wish in wishes:
        line, told = wish.split(" ", 1)
        rows += ["wish " + line, "told " + told]
    return "\n".join([*rows, "deeds " + deeds])


class Whole(unittest.TestCase):
    def houses(self):
        for wishes in HOUSES:
            yield wishes, read_house(told_text(wishes, DEEDS))

    def test_books_and_layers_show_what_is_told(self):
        words = []
        for wishes, house in self.houses():
            paper = quiet_paper(house)
            words.append(paper[0])
            self.assertIs(shows_quiet(house, paper), True, wishes)
            if paper[0] == "quarrel":
                self.assertIn(paper[2], broken(ran(house, paper[1])[0]))
                if len(paper[1]) < 4:
                    for row in itertools.product(house[2], repeat=len(paper[1]) - 1):
                        self.assertEqual(broken(ran(house, row)[0]), (), wishes)
        self.assertEqual({word: words.count(word) for word in words}, {"quiet": 4, "quarrel": 8})

    def test_orders(self):
        words = []
        for wishes, house in self.houses():
            paper = order_paper(house)
            words.append(paper[0])
            self.assertIs(shows_order(house, paper), True, wishes)
            orders = list(itertools.permutations(range(len(wishes))))
            quiet = [p for p in orders if quiet_paper(with_order(house, p))[0] == "quiet"]
            self.assertEqual(paper[1] if paper[0] == "order" else len(paper[1]), quiet[0] if quiet else len(orders))
        self.assertGreater(words.count("order"), 3)
        self.assertGreater(words.count("none"), 2)

    def test_choices(self):
        sets = []
        for wishes, house in self.houses():
            told = tuple(choices(house))
            sets += told
            self.assertIs(shows_choices(house, told, choice_papers(house)), True, wishes)
            for given in told:
                rest = [number for number in range(len(wishes)) if number not in given]
                self.assertEqual(order_paper(with_order(house, tuple(rest)))[0], "order", wishes)
        self.assertGreater(len(set(sets)), 3)

    def test_ways_out_and_talks(self):
        for wishes, house in self.houses():
            backs = {1 for wish in wishes if wish.startswith("b back")}
            joining = {1 for wish in wishes if wish.startswith("b three")}
            many, scene, line = longest_way(house)
            self.assertTrue(many is not None or line in backs, wishes)
            if not joining:
                self.assertIsNone(two_talks(house), wishes)
            for scene, line in itertools.product(scenes_of(house), range(3)):
                self.assertTrue(len(talks_of(scene[0], line)) < 2 or line in joining, wishes)

    def test_idle_wishes_are_those_without_which_it_is_alike(self):
        for wishes, house in self.houses():
            idle = []
            for k in range(len(wishes)):
                paper = alike_paper(house, without(house, k))
                self.assertIs(shows_alike(house, without(house, k), paper), True, wishes)
                if paper[0] == "alike":
                    idle.append(k)
                else:
                    one, other = ran(house, paper[1])[1], ran(without(house, k), paper[1])[1]
                    self.assertEqual(one[:-1], other[:-1])
                    self.assertNotEqual(one[-1], other[-1])
            self.assertEqual(idle_wishes(house), tuple(idle), wishes)

    def test_texts_are_read_as_they_were(self):
        for wishes, house in self.houses():
            self.assertEqual(read_house(show_house(house)), house)
            paper = quiet_paper(house)
            if paper[0] == "quarrel":
                self.assertEqual(row_in(show_row(paper[1])), paper[1])

    def test_answers_are_taken_and_what_isnt_right_is_not(self):
        for wishes, house in self.houses():
            text = "\n".join((told_text(wishes, DEEDS), "ask", *QUESTIONS))
            told = answers(text)
            self.assertEqual(answers(sheet_of(house, *QUESTIONS)), told, wishes)
            self.assertEqual(checked(text, told), (True,) * 8, wishes)
            rows = told.split("\n")
            for at in range(8):
                spoilt = [*rows[:at], rows[at - 1], *rows[at + 1:]]
                is_taken = rows[at] == rows[at - 1]
                self.assertEqual(checked(text, "\n".join(spoilt))[at], is_taken, (wishes, rows[at - 1]))


if __name__ == "__main__":
    unittest.main()
