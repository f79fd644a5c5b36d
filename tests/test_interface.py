"""The interface: all that it lists stands in its module, with the arguments that the points name."""

import importlib
import inspect
import unittest

from callwishes.lines import pattern_text
from callwishes.showing import show_house, show_row
from callwishes.wishes import all_deeds

FUNCTIONS = """
lines: is_pattern thing n; fits pattern line; pattern_text pattern; pattern_in word; are_tests thing
wishes: is_wish thing n; is_house thing; all_deeds n
rooms: calls_of calls line; talks_of calls line; holds_of calls line; shown_to calls line; rings_at calls line
rooms: between calls one other; has_free_hands calls line; is_free calls line; is_so calls night me hid test
points: begun house; asked house scene point
deeds: stepped house scene deed
tales: told_on house tales calls night event
runs: ran house deeds; broken scene
books: scenes_of house; quiet_paper house
booklooks: is_scene house thing; shows_quiet house thing
quarrels: with_order house p; alone house; pairs house; least_row house k; whose house row
orders: order_paper house
orderlooks: shows_order house thing
choices: choices house; choice_papers house
choicelooks: shows_choices house told thing
waysout: way_out house scene line; longest_way house; two_talks house
alike: alike_paper one other; without house k; scene_without scene k; idle_wishes house
alikelooks: shows_alike one other thing
toldwishes: told_wish name me lines
showing: show_house house; show_row deeds
reading: read_house text; row_in text
sheet: answers text
checking: checked text told
"""


class Interface(unittest.TestCase):
    def test_functions_and_their_arguments(self):
        for row in FUNCTIONS.strip().split("\n"):
            module, listed = row.split(": ")
            for each in listed.split("; "):
                name, *arguments = each.split(" ")
                function = getattr(importlib.import_module("callwishes." + module), name)
                self.assertTrue(inspect.isfunction(function), name)
                self.assertEqual(function.__module__, "callwishes." + module, name)
                parameters = inspect.signature(function).parameters
                self.assertEqual(list(parameters), arguments, name)
                self.assertTrue(all(each.default is inspect.Parameter.empty for each in parameters.values()), name)

    def test_refusals(self):
        errors = importlib.import_module("callwishes.errors")
        for name in ("WishError", "TooMany", "NoWish", "NoText", "NoSheet"):
            self.assertTrue(issubclass(getattr(errors, name), ValueError), name)

    def test_lines_beyond_a_houses_are_shown_without_an_error(self):
        self.assertEqual(pattern_text((0, 4)), "ae")
        self.assertEqual(show_row((("dial", 4, 0),)), "dial:e:a")
        self.assertEqual(show_house((5, ((4, (), ()),), all_deeds(5))), "lines 5\nwish e\ndeeds all")


if __name__ == "__main__":
    unittest.main()
