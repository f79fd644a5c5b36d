"""Points 17, 18, 19: tales are led on event by event."""

import unittest

from callwishes.tales import told_on


def house_of(*tales, me=1):
    return (4, tuple((me, (), tale) for tale in tales), ())


def tell(tale, event, state=0, calls=(), night=0, me=1):
    """The state of the tale of line me behind the event."""
    told = told_on(house_of(tale, me=me), (state,), calls, night, event)
    assert isinstance(told, tuple) and len(told) == 1
    return told[0]


class ToldOn(unittest.TestCase):
    def test_no_tales(self):
        self.assertEqual(told_on(house_of(), (), (), 0, ("done", (), 0)), ())

    def test_a_tale_without_rules_stays(self):
        for state in (0, 7, None):
            self.assertEqual(tell((), ("done", (), 0), state), state)

    def test_by_its_state(self):
        tale = ((0, "done", (), (), 3), (3, "done", (), (), 7))
        self.assertEqual(tell(tale, ("done", (), 0), 0), 3)
        self.assertEqual(tell(tale, ("done", (), 0), 3), 7)
        self.assertEqual(tell(tale, ("done", (), 0), 7), 7)
        self.assertEqual(tell(tale, ("done", (), 0), 1), 1)

    def test_by_the_events_word(self):
        tale = ((0, "rings", (None, None), (), 1), (0, "shows", (None, None), (), 2), (0, "wait", (), (), 3))
        self.assertEqual(tell(tale, ("rings", (0, 1), 0)), 1)
        self.assertEqual(tell(tale, ("shows", (0, 1), 0)), 2)
        self.assertEqual(tell(tale, ("talks", (0, 1), 0)), 0)
        self.assertEqual(tell(tale, ("wait", (), 0)), 3)
        self.assertEqual(tell(tale, ("turn", (), 0)), 0)

    def test_by_patterns_that_all_fit(self):
        tale = ((0, "sent", ((0, 2), (1,), None), (), 1),)
        for lines, state in (((0, 1, 2), 1), ((2, 1, 3), 1), ((3, 1, 2), 0), ((0, 2, 3), 0), ((1, 0, 3), 0)):
            self.assertEqual(tell(tale, ("sent", lines, 0)), state, lines)

    def test_patterns_of_one_line(self):
        tale = ((0, "frees", ((2,),), (), 1),)
        self.assertEqual(tell(tale, ("frees", (2,), 0)), 1)
        self.assertEqual(tell(tale, ("frees", (1,), 0)), 0)

    def test_by_tests_that_are_all_so_of_the_wishs_line(self):
        tale = ((0, "done", (), ("night", "talk"), 1),)
        talk = ((1, 2, "talk", 0),)
        self.assertEqual(tell(tale, ("done", (), 0), calls=talk, night=1), 1)
        self.assertEqual(tell(tale, ("done", (), 0), calls=talk, night=0), 0)
        self.assertEqual(tell(tale, ("done", (), 0), calls=(), night=1), 0)
        self.assertEqual(tell(tale, ("done", (), 0), calls=((0, 2, "talk", 0),), night=1), 0)
        self.assertEqual(tell(tale, ("done", (), 0), calls=talk, night=1, me=2), 1)
        self.assertEqual(tell(tale, ("done", (), 0), calls=talk, night=1, me=3), 0)

    def test_hid_by_the_event(self):
        tale = ((0, "rings", (None, None), ("hid",), 1), (0, "rings", (None, None), ("named",), 2))
        self.assertEqual(tell(tale, ("rings", (0, 1), 1)), 1)
        self.assertEqual(tell(tale, ("rings", (0, 1), 0)), 2)
        # The calls that stand don't tell it.
        self.assertEqual(tell(tale, ("rings", (0, 1), 0), calls=((0, 1, "ring", 1),)), 2)

    def test_its_first_rule_that_is_so(self):
        tale = ((0, "done", (), ("night",), 1), (0, "done", (), (), 2), (0, "done", (), (), None))
        self.assertEqual(tell(tale, ("done", (), 0), night=1), 1)
        self.assertEqual(tell(tale, ("done", (), 0), night=0), 2)

    def test_it_takes_one_rule_for_an_event(self):
        tale = ((0, "done", (), (), 1), (1, "done", (), (), 2))
        self.assertEqual(tell(tale, ("done", (), 0)), 1)

    def test_none_is_broken_and_stays(self):
        tale = ((0, "done", (), (), None), (1, "done", (), (), 2))
        self.assertIsNone(tell(tale, ("done", (), 0)))
        for event in (("done", (), 0), ("wait", (), 0), ("rings", (0, 1), 1)):
            self.assertIsNone(tell(tale, event, None))

    def test_each_tale_goes_its_own_way(self):
        tale = ((0, "done", (), (), 1), (1, "done", (), (), None), (2, "wait", (), (), 3))
        house = house_of(tale, tale, tale, tale, ())
        self.assertEqual(told_on(house, (0, 1, 2, None, 5), (), 0, ("done", (), 0)), (1, None, 2, None, 5))

    def test_nothing_handed_in_is_changed_and_the_same_is_told_again(self):
        house = house_of(((0, "done", (), ("mute",), 1),))
        handed = (house, (0,), ((0, 1, "ring", 1),), 1, ("done", (), 0))
        before = repr(handed)
        self.assertEqual(told_on(*handed), told_on(*handed))
        self.assertEqual(repr(handed), before)


if __name__ == "__main__":
    unittest.main()
