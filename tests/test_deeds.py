"""Points 13 to 18: deeds, how calls come, and what follows each deed, written as in helper.py."""

import itertools
import unittest

from callwishes.deeds import stepped
from callwishes.wishes import all_deeds
from helper import calls_in, calls_text, deed_in, events_text, house_of


NO_WISHES = house_of()


class DeedCase(unittest.TestCase):
    def check(self, house, ahead, deed, events, behind, minds=None, start=None, night=0, tales=None):
        """By the deed, where the calls ahead stand, there are these events, and the calls behind."""
        many = len(house[1])
        scene = (calls_in(ahead), night, start or (0,) * many, (0,) * many)
        told, told_events = stepped(house, scene, deed_in(deed))
        self.assertEqual(events_text(told_events), events)
        self.assertEqual(calls_text(told[0]), calls_text(calls_in(behind)))
        self.assertEqual(told[0], calls_in(behind))
        self.assertEqual(told[1], 1 - night if deed == "turn" else night)
        if minds is not None:
            self.assertEqual(told[2], minds)
        if tales is not None:
            self.assertEqual(told[3], tales)


class Dial(DeedCase):
    def test_a_call_rings_at_a_free_line(self):
        self.check(NO_WISHES, "", "dial:a:b", "dial:a:b comes:a:b rings:a:b done", "ab:ring")
        self.check(NO_WISHES, "ab:talk", "dial:d:c", "dial:d:c comes:d:c rings:d:c done", "ab:talk dc:ring")

    def test_one_that_holds_all_its_calls_can_dial(self):
        self.check(NO_WISHES, "ab:hold0", "dial:a:c", "dial:a:c comes:a:c rings:a:c done", "ab:hold0 ac:ring")
        self.check(NO_WISHES, "ba:hold1 ca:hold1", "dial:a:d", "dial:a:d comes:a:d rings:a:d done",
                   "ad:ring ba:hold1 ca:hold1")
        self.check(NO_WISHES, "ba:busy da:shut", "dial:a:c", "dial:a:c comes:a:c rings:a:c done",
                   "ac:ring ba:busy da:shut")

    def test_one_without_free_hands_cant(self):
        house = house_of(("a", "0 out * - bar 1"))
        for ahead in ("ab:ring", "ab:show bd:talk", "ab:talk", "ab:hold1", "ab:busy", "ab:shut", "ab:back", "ba:ring",
                      "ad:talk ba:show", "ba:talk", "ba:hold0", "ab:hold0 ad:talk"):
            self.check(house, ahead, "dial:a:c", "dial:a:c done", ahead, minds=(0,))

    def test_between_two_is_at_most_one_call(self):
        house = house_of(("a", "0 out * - bar 1"))
        for ahead in ("ab:hold0", "ba:hold1", "ba:busy", "ba:shut", "ba:back"):
            self.check(house, ahead, "dial:a:b", "dial:a:b done", ahead, minds=(0,))

    def test_a_hide(self):
        house = house_of(("a", "0 out b - hide 1"))
        self.check(house, "", "dial:a:b", "dial:a:b comes:a:b:hid rings:a:b:hid done", "ab:ring:hid", minds=(1,))
        self.check(house, "", "dial:a:c", "dial:a:c comes:a:c rings:a:c done", "ac:ring", minds=(0,))
        house = house_of(("a", "0 out * - hide 1"), ("a", "0 out * - hide 2"))
        self.check(house, "", "dial:a:b", "dial:a:b comes:a:b:hid rings:a:b:hid done", "ab:ring:hid", minds=(1, 2))

    def test_a_bar(self):
        house = house_of(("a", "0 out * - bar 1"), ("b", "0 in * - send:c 1"))
        self.check(house, "", "dial:a:b", "dial:a:b shut:a:b done", "ab:shut", minds=(1, 0))

    def test_a_bar_behind_a_hide(self):
        house = house_of(("a", "0 out * - hide 1"), ("a", "0 out * - bar 1"), ("a", "0 out * - hide 1"))
        self.check(house, "", "dial:a:b", "dial:a:b shut:a:b:hid done", "ab:shut:hid", minds=(1, 1, 0))

    def test_at_out_the_name_is_not_hid_yet(self):
        house = house_of(("a", "0 out * - hide 1"), ("a", "0 out * hid bar 1", "0 out * named pass 2"))
        self.check(house, "", "dial:a:b", "dial:a:b comes:a:b:hid rings:a:b:hid done", "ab:ring:hid", minds=(1, 2))

    def test_out_is_asked_of_the_caller_alone(self):
        house = house_of(("b", "0 out * - bar 1"), ("c", "0 out * - bar 1"))
        self.check(house, "", "dial:a:b", "dial:a:b comes:a:b rings:a:b done", "ab:ring", minds=(0, 0))


class Coming(DeedCase):
    def test_busy_at_a_used_line(self):
        for ahead in ("bc:talk", "cb:ring", "bc:ring", "bc:busy", "bc:hold0", "cb:hold0", "bc:back"):
            self.check(NO_WISHES, ahead, "dial:a:b", "dial:a:b comes:a:b busy:a:b done", ahead + " ab:busy")

    def test_a_line_called_but_in_no_call_is_free(self):
        for ahead in ("cb:busy", "cb:shut", "cb:back"):
            self.check(NO_WISHES, ahead, "dial:a:b", "dial:a:b comes:a:b rings:a:b done", ahead + " ab:ring")

    def test_busy_is_met_by_the_caller(self):
        house = house_of(("a", "0 met b - pass 1"), ("b", "0 met * - pass 1"), ("a", "0 met c - pass 2"))
        self.check(house, "bc:talk", "dial:a:b", "dial:a:b comes:a:b busy:a:b done", "ab:busy bc:talk",
                   minds=(1, 0, 0))

    def test_met_is_asked_behind_the_busy_call(self):
        house = house_of(("a", "0 met * idle pass 1", "0 met * used,named pass 2"))
        self.check(house, "bc:talk", "dial:a:b", "dial:a:b comes:a:b busy:a:b done", "ab:busy bc:talk", minds=(2,))

    def test_met_is_asked_with_the_hid_of_the_call(self):
        house = house_of(("a", "0 out * - hide 1", "1 met * hid pass 2", "1 met * named pass 3"))
        self.check(house, "bc:talk", "dial:a:b", "dial:a:b comes:a:b:hid busy:a:b:hid done", "ab:busy:hid bc:talk",
                   minds=(2,))

    def test_a_ring_or_a_shut_is_not_met(self):
        house = house_of(("a", "0 met * - pass 1"))
        self.check(house, "", "dial:a:b", "dial:a:b comes:a:b rings:a:b done", "ab:ring", minds=(0,))
        house = house_of(("a", "0 met * - pass 1"), ("b", "0 in * - shut 0"))
        self.check(house, "", "dial:a:b", "dial:a:b comes:a:b shut:a:b done", "ab:shut", minds=(0, 0))

    def test_in_shut(self):
        house = house_of(("b", "0 in ac - shut 1"))
        self.check(house, "", "dial:a:b", "dial:a:b comes:a:b shut:a:b done", "ab:shut", minds=(1,))
        self.check(house, "", "dial:d:b", "dial:d:b comes:d:b rings:d:b done", "db:ring", minds=(0,))
        self.check(house, "bd:talk", "dial:a:b", "dial:a:b comes:a:b shut:a:b done", "ab:shut bd:talk", minds=(1,))

    def test_in_is_asked_with_the_hid_of_the_call(self):
        house = house_of(("a", "0 out * - hide 0"), ("b", "0 in * hid shut 1"))
        self.check(house, "", "dial:a:b", "dial:a:b comes:a:b:hid shut:a:b:hid done", "ab:shut:hid", minds=(0, 1))
        self.check(house, "", "dial:c:b", "dial:c:b comes:c:b rings:c:b done", "cb:ring", minds=(0, 0))

    def test_in_is_asked_ahead_of_the_calls_being_there(self):
        house = house_of(("b", "0 in * idle shut 1"))
        self.check(house, "", "dial:a:b", "dial:a:b comes:a:b shut:a:b done", "ab:shut", minds=(1,))

    def test_in_send(self):
        house = house_of(("b", "0 in * - send:c 1"))
        self.check(house, "", "dial:a:b", "dial:a:b comes:a:b sent:a:b:c comes:a:c rings:a:c done", "ac:ring",
                   minds=(1,))
        self.check(house, "cd:talk", "dial:a:b", "dial:a:b comes:a:b sent:a:b:c comes:a:c busy:a:c done",
                   "ac:busy cd:talk")

    def test_a_hid_call_is_hid_wherever_it_is_sent(self):
        house = house_of(("a", "0 out * - hide 0"), ("b", "0 in * - send:c 0"), ("c", "0 in * hid send:d 0"))
        self.check(house, "", "dial:a:b",
                   "dial:a:b comes:a:b:hid sent:a:b:c:hid comes:a:c:hid sent:a:c:d:hid comes:a:d:hid rings:a:d:hid "
                   "done", "ad:ring:hid")

    def test_a_send_to_its_from_is_busy(self):
        house = house_of(("b", "0 in * - send:a 1"), ("a", "0 met b - pass 1"))
        self.check(house, "", "dial:a:b", "dial:a:b comes:a:b sent:a:b:a busy:a:b done", "ab:busy", minds=(1, 1))

    def test_a_send_to_a_line_by_way_of_which_it_came_is_busy(self):
        house = house_of(("b", "0 in * - send:c 1"), ("c", "0 in * - send:b 1"), ("a", "0 met c - pass 1"))
        self.check(house, "", "dial:a:b", "dial:a:b comes:a:b sent:a:b:c comes:a:c sent:a:c:b busy:a:c done",
                   "ac:busy", minds=(1, 1, 1))

    def test_a_send_round_through_several_lines(self):
        rows = (("b", "0 in * - send:c 1"), ("c", "0 in * - send:d 1"))
        for letter in "abc":
            house = house_of(*rows, ("d", "0 in * - send:" + letter + " 1"))
            self.check(house, "", "dial:a:b",
                       "dial:a:b comes:a:b sent:a:b:c comes:a:c sent:a:c:d comes:a:d sent:a:d:" + letter
                       + " busy:a:d done", "ad:busy", minds=(1, 1, 1))

    def test_a_send_to_a_line_with_which_its_from_has_a_call_is_busy(self):
        house = house_of(("b", "0 in * - send:c 1"))
        for ahead in ("ac:hold0", "ca:hold1", "ca:busy", "ca:shut", "ca:back"):
            self.check(house, ahead, "dial:a:b", "dial:a:b comes:a:b sent:a:b:c busy:a:b done", ahead + " ab:busy")

    def test_a_call_of_the_sender_bars_no_send(self):
        house = house_of(("b", "0 in * - send:c 1"))
        self.check(house, "cb:busy", "dial:a:b", "dial:a:b comes:a:b sent:a:b:c comes:a:c busy:a:c done",
                   "ac:busy cb:busy")
        self.check(house, "bc:talk", "dial:a:b", "dial:a:b comes:a:b sent:a:b:c comes:a:c busy:a:c done",
                   "ac:busy bc:talk")

    def test_also(self):
        house = house_of(("b", "0 in * - also:c 1"))
        self.check(house, "", "dial:a:b", "dial:a:b comes:a:b rings:a:c rings:a:b done", "ab:ring ac:ring", minds=(1,))

    def test_also_of_several_lines_in_order(self):
        house = house_of(("b", "0 in * - also:d 1"), ("b", "0 in * - also:c 1"), ("a", "0 out * - hide 0"))
        self.check(house, "", "dial:a:b", "dial:a:b comes:a:b:hid rings:a:d:hid rings:a:c:hid rings:a:b:hid done",
                   "ab:ring:hid ac:ring:hid ad:ring:hid")

    def test_also_asks_no_wish_of_the_line_that_rings_too(self):
        house = house_of(("b", "0 in * - also:c 1"), ("c", "0 in * - shut 1"))
        self.check(house, "", "dial:a:b", "dial:a:b comes:a:b rings:a:c rings:a:b done", "ab:ring ac:ring",
                   minds=(1, 0))

    def test_also_twice_of_one_line(self):
        house = house_of(("b", "0 in * - also:c 1"), ("b", "0 in * - also:c 2"))
        self.check(house, "", "dial:a:b", "dial:a:b comes:a:b rings:a:c rings:a:b done", "ab:ring ac:ring",
                   minds=(1, 2))

    def test_also_of_a_used_line_and_of_the_caller(self):
        house = house_of(("b", "0 in * - also:c 1"), ("b", "0 in * - also:a 2"))
        self.check(house, "cd:talk", "dial:a:b", "dial:a:b comes:a:b rings:a:b done", "ab:ring cd:talk", minds=(1, 2))

    def test_also_of_a_line_with_a_call_to_the_caller_or_from_it(self):
        house = house_of(("b", "0 in * - also:c 1"))
        for ahead in ("ac:hold0", "ca:busy"):
            self.check(house, ahead, "dial:a:b", "dial:a:b comes:a:b rings:a:b done", ahead + " ab:ring", minds=(1,))

    def test_also_then_shut_and_send(self):
        house = house_of(("b", "0 in * - also:c 1"), ("b", "0 in * - shut 1"))
        self.check(house, "", "dial:a:b", "dial:a:b comes:a:b rings:a:c shut:a:b done", "ab:shut ac:ring")
        house = house_of(("b", "0 in * - also:c 1"), ("b", "0 in * - send:d 1"))
        self.check(house, "", "dial:a:b", "dial:a:b comes:a:b rings:a:c sent:a:b:d comes:a:d rings:a:d done",
                   "ac:ring ad:ring")

    def test_also_then_a_send_to_the_same_line_is_busy(self):
        house = house_of(("b", "0 in * - also:c 1"), ("b", "0 in * - send:c 1"))
        self.check(house, "", "dial:a:b", "dial:a:b comes:a:b rings:a:c sent:a:b:c busy:a:b done", "ab:busy ac:ring")

    def test_a_line_by_way_of_which_it_came_may_ring_too(self):
        house = house_of(("b", "0 in * - send:c 1"), ("c", "0 in * - also:b 1"))
        self.check(house, "", "dial:a:b", "dial:a:b comes:a:b sent:a:b:c comes:a:c rings:a:b rings:a:c done",
                   "ab:ring ac:ring")

    def test_also_at_a_used_line_then_busy(self):
        house = house_of(("b", "0 in * - also:c 1"))
        self.check(house, "bd:talk", "dial:a:b", "dial:a:b comes:a:b rings:a:c busy:a:b done",
                   "ab:busy ac:ring bd:talk")

    def test_full_is_asked_of_a_used_line_alone(self):
        house = house_of(("b", "0 full * - shut 1"))
        self.check(house, "", "dial:a:b", "dial:a:b comes:a:b rings:a:b done", "ab:ring", minds=(0,))
        self.check(house, "bc:hold0", "dial:a:b", "dial:a:b comes:a:b shut:a:b done", "ab:shut bc:hold0", minds=(1,))

    def test_full_send(self):
        house = house_of(("b", "0 full a - send:d 1"))
        self.check(house, "bc:talk", "dial:a:b", "dial:a:b comes:a:b sent:a:b:d comes:a:d rings:a:d done",
                   "ad:ring bc:talk", minds=(1,))
        house = house_of(("b", "0 full a - send:a 1"))
        self.check(house, "bc:talk", "dial:a:b", "dial:a:b comes:a:b sent:a:b:a busy:a:b done", "ab:busy bc:talk")

    def test_full_send_back_along_its_way_is_busy(self):
        house = house_of(("b", "0 in * - send:c 1"), ("c", "0 full * - send:b 1"))
        self.check(house, "cd:talk", "dial:a:b", "dial:a:b comes:a:b sent:a:b:c comes:a:c sent:a:c:b busy:a:c done",
                   "ac:busy cd:talk", minds=(1, 1))
        house = house_of(("b", "0 full * - send:c 1"), ("c", "0 full * - send:b 1"))
        self.check(house, "bd:talk dc:hold1", "dial:a:b",
                   "dial:a:b comes:a:b sent:a:b:c comes:a:c sent:a:c:b busy:a:c done", "ac:busy bd:talk dc:hold1")

    def test_full_show(self):
        house = house_of(("b", "0 full * - show 1"), ("a", "0 met * - pass 1"))
        self.check(house, "bc:talk", "dial:a:b", "dial:a:b comes:a:b shows:a:b done", "ab:show bc:talk", minds=(1, 0))
        self.check(house, "bc:talk db:show", "dial:a:b", "dial:a:b comes:a:b busy:a:b done", "ab:busy bc:talk db:show",
                   minds=(1, 1))
        self.check(house, "bc:hold0", "dial:a:b", "dial:a:b comes:a:b busy:a:b done", "ab:busy bc:hold0", minds=(1, 1))

    def test_full_is_asked_with_the_hid_of_the_call(self):
        house = house_of(("a", "0 out * - hide 0"), ("b", "0 full * named shut 2", "0 full * hid show 1"))
        self.check(house, "bc:talk", "dial:a:b", "dial:a:b comes:a:b:hid shows:a:b:hid done", "ab:show:hid bc:talk",
                   minds=(0, 1))

    def test_full_where_another_wish_acts_behind(self):
        house = house_of(("b", "0 full * - show 1"), ("b", "0 full * - send:d 1"))
        self.check(house, "bc:hold0", "dial:a:b", "dial:a:b comes:a:b sent:a:b:d comes:a:d rings:a:d done",
                   "ad:ring bc:hold0", minds=(1, 1))


class Take(DeedCase):
    def test_a_ring_talks(self):
        self.check(NO_WISHES, "ab:ring", "take:b", "take:b talks:a:b done", "ab:talk")
        self.check(NO_WISHES, "ba:ring:hid", "take:a", "take:a talks:b:a:hid done", "ba:talk:hid")

    def test_other_calls_from_its_from_end(self):
        self.check(NO_WISHES, "ab:ring:hid ac:ring:hid ad:busy", "take:c", "take:c talks:a:c:hid ends:a:b ends:a:d "
                   "frees:b done", "ac:talk:hid")
        self.check(NO_WISHES, "ab:shut ac:ring ad:ring", "take:d", "take:d talks:a:d ends:a:b ends:a:c frees:c done",
                   "ad:talk")
        self.check(NO_WISHES, "ab:show bd:talk ac:ring", "take:c", "take:c talks:a:c ends:a:b done", "ac:talk bd:talk")

    def test_held_calls_talks_and_backs_of_its_from_stay(self):
        self.check(NO_WISHES, "ab:hold0 ac:ring ad:hold1", "take:c", "take:c talks:a:c done",
                   "ab:hold0 ac:talk ad:hold1")
        self.check(NO_WISHES, "ab:back ac:ring ad:talk", "take:c", "take:c talks:a:c done", "ab:back ac:talk ad:talk")

    def test_calls_to_its_from_and_of_other_lines_stay(self):
        self.check(NO_WISHES, "ba:ring ac:ring da:busy", "take:c", "take:c talks:a:c done", "ac:talk ba:ring da:busy")
        self.check(NO_WISHES, "ab:ring cb:ring bd:busy", "take:b", "take:b talks:a:b done", "ab:talk bd:busy cb:ring")

    def test_the_first_ring_is_taken(self):
        self.check(NO_WISHES, "ad:ring bd:ring", "take:d", "take:d talks:a:d done", "ad:talk bd:ring")
        self.check(NO_WISHES, "ba:back cb:ring", "take:b", "take:b comes:b:a rings:b:a done", "ba:ring cb:ring")
        self.check(NO_WISHES, "ab:ring bc:back", "take:b", "take:b talks:a:b done", "ab:talk bc:back")

    def test_one_that_has_a_talk_cant(self):
        self.check(NO_WISHES, "ab:ring bc:talk", "take:b", "take:b done", "ab:ring bc:talk")
        self.check(NO_WISHES, "bc:talk bd:back", "take:b", "take:b done", "bc:talk bd:back")

    def test_one_that_holds_a_call_can(self):
        self.check(NO_WISHES, "ab:ring bc:hold0", "take:b", "take:b talks:a:b done", "ab:talk bc:hold0")
        self.check(NO_WISHES, "ab:ring cb:hold0", "take:b", "take:b talks:a:b done", "ab:talk cb:hold0")

    def test_without_a_ring_it_cant(self):
        for ahead in ("", "ba:ring", "ab:busy", "ab:shut", "ab:back", "ab:hold0", "ac:ring"):
            self.check(NO_WISHES, ahead, "take:b", "take:b done", ahead)

    def test_a_back_is_taken(self):
        self.check(NO_WISHES, "ab:back", "take:a", "take:a comes:a:b rings:a:b done", "ab:ring")
        self.check(NO_WISHES, "ab:back bc:talk", "take:a", "take:a comes:a:b busy:a:b done", "ab:busy bc:talk")
        self.check(NO_WISHES, "ab:back:hid", "take:a", "take:a comes:a:b rings:a:b done", "ab:ring")

    def test_a_back_that_is_taken_asks_out(self):
        house = house_of(("a", "0 out b idle hide 1", "0 out * - bar 2"))
        self.check(house, "ab:back", "take:a", "take:a comes:a:b:hid rings:a:b:hid done", "ab:ring:hid", minds=(1,))
        house = house_of(("a", "0 out b - bar 1"))
        self.check(house, "ab:back", "take:a", "take:a shut:a:b done", "ab:shut", minds=(1,))

    def test_a_back_that_is_taken_may_be_sent(self):
        house = house_of(("b", "0 in * - send:c 1"))
        self.check(house, "ab:back", "take:a", "take:a comes:a:b sent:a:b:c comes:a:c rings:a:c done", "ac:ring")

    def test_a_back_is_taken_whatever_else_the_line_has_but_a_talk(self):
        self.check(NO_WISHES, "ab:back ac:busy", "take:a", "take:a comes:a:b rings:a:b done", "ab:ring ac:busy")


class Drop(DeedCase):
    def test_all_its_calls_end_in_their_order(self):
        self.check(NO_WISHES, "ab:talk", "drop:a", "drop:a ends:a:b frees:a frees:b done", "")
        self.check(NO_WISHES, "ab:talk:hid", "drop:b", "drop:b ends:a:b frees:a frees:b done", "")
        self.check(NO_WISHES, "ab:hold0 cb:talk bd:ring", "drop:b",
                   "drop:b ends:a:b ends:b:d ends:c:b frees:a frees:b frees:c frees:d done", "")

    def test_each_way_in_which_a_call_stands(self):
        for how in ("ring", "talk", "hold0", "hold1"):
            self.check(NO_WISHES, "ab:" + how, "drop:a", "drop:a ends:a:b frees:a frees:b done", "")
        for how in ("busy", "shut"):
            self.check(NO_WISHES, "ab:" + how, "drop:a", "drop:a ends:a:b frees:a done", "")
        self.check(NO_WISHES, "ab:show bc:talk", "drop:a", "drop:a ends:a:b frees:a done", "bc:talk")
        for how in ("talk", "hold0", "hold1"):
            self.check(NO_WISHES, "ab:" + how, "drop:b", "drop:b ends:a:b frees:a frees:b done", "")

    def test_those_that_ring_at_it_or_are_shown_to_it_stay(self):
        self.check(NO_WISHES, "ab:ring", "drop:b", "drop:b done", "ab:ring")
        self.check(NO_WISHES, "ab:back", "drop:a", "drop:a done", "ab:back")
        self.check(NO_WISHES, "ab:ring bc:talk", "drop:b", "drop:b ends:b:c frees:c done", "ab:ring")
        self.check(NO_WISHES, "ab:show bc:talk bd:back", "drop:b", "drop:b ends:b:c frees:c done", "ab:show bd:back")

    def test_calls_in_which_it_is_not_stay(self):
        for ahead in ("ab:busy", "ab:shut", "ab:back", "ac:talk"):
            self.check(NO_WISHES, ahead, "drop:b", "drop:b done", ahead)

    def test_a_line_in_no_call_drops_and_is_asked(self):
        house = house_of(("a", "0 drop * - pass 1"))
        self.check(house, "", "drop:a", "drop:a done", "", minds=(1,))
        self.check(house, "", "drop:b", "drop:b done", "", minds=(0,))

    def test_drop_is_asked_without_a_hid_call(self):
        house = house_of(("a", "0 drop * hid keep 1", "0 drop * named keep 2"))
        self.check(house, "ab:talk:hid", "drop:a", "drop:a holds:a:b done", "ab:hold0:hid", minds=(2,))

    def test_a_keep(self):
        house = house_of(("a", "0 drop * - keep 1"))
        self.check(house, "ab:talk", "drop:a", "drop:a holds:a:b done", "ab:hold0", minds=(1,))
        self.check(house, "ba:talk:hid", "drop:a", "drop:a holds:a:b done", "ba:hold1:hid", minds=(1,))
        self.check(house, "ba:talk", "drop:b", "drop:b ends:b:a frees:a frees:b done", "", minds=(0,))

    def test_a_keep_of_several_talks_and_held_calls(self):
        house = house_of(("b", "0 drop * - keep 1"))
        self.check(house, "ab:talk bc:talk db:hold1", "drop:b", "drop:b holds:b:a holds:b:c done",
                   "ab:hold1 bc:hold0 db:hold1")

    def test_behind_a_keep_calls_that_others_hold_end(self):
        house = house_of(("b", "0 drop * - keep 1"))
        self.check(house, "ab:hold0 bc:talk bd:busy", "drop:b", "drop:b holds:b:c ends:a:b ends:b:d frees:a done",
                   "bc:hold0")

    def test_behind_a_keep_a_shown_call_rings(self):
        house = house_of(("b", "0 drop * - keep 1"))
        self.check(house, "ab:show bc:talk", "drop:b", "drop:b holds:b:c rings:a:b done", "ab:ring bc:hold0")

    def test_a_keep_that_cant_be_done(self):
        house = house_of(("a", "0 drop * - keep 1"))
        self.check(house, "ab:hold0", "drop:a", "drop:a ends:a:b frees:a frees:b done", "", minds=(1,))

    def test_without_a_keep_held_calls_end(self):
        house = house_of(("a", "0 drop * - pass 1"))
        self.check(house, "ab:hold0 ac:talk", "drop:a", "drop:a ends:a:b ends:a:c frees:a frees:b frees:c done", "")


class Flash(DeedCase):
    SWAP = house_of(("a", "0 flash * - swap 1"))
    JOIN = house_of(("a", "0 flash * - join 1"))

    def test_without_an_act_nothing_comes_of_it(self):
        for ahead in ("", "ab:talk", "ab:talk ca:show", "ab:hold0"):
            self.check(NO_WISHES, ahead, "flash:a", "flash:a done", ahead)
            self.check(house_of(("a", "0 flash * - pass 1")), ahead, "flash:a", "flash:a done", ahead, minds=(1,))

    def test_of_another_line_no_wish_is_asked(self):
        self.check(self.SWAP, "ab:talk", "flash:b", "flash:b done", "ab:talk", minds=(0,))

    def test_flash_is_asked_without_a_hid_call(self):
        house = house_of(("a", "0 flash * hid swap 1", "0 flash * named swap 2"))
        self.check(house, "ab:talk:hid", "flash:a", "flash:a holds:a:b done", "ab:hold0:hid", minds=(2,))

    def test_a_swap_holds_the_talk(self):
        self.check(self.SWAP, "ab:talk:hid", "flash:a", "flash:a holds:a:b done", "ab:hold0:hid", minds=(1,))
        self.check(self.SWAP, "ba:talk", "flash:a", "flash:a holds:a:b done", "ba:hold1", minds=(1,))

    def test_a_swap_holds_several_talks_in_their_order(self):
        self.check(self.SWAP, "ac:talk ba:talk ad:talk", "flash:a", "flash:a holds:a:c holds:a:d holds:a:b done",
                   "ac:hold0 ad:hold0 ba:hold1")

    def test_a_swap_talks_with_the_shown_call(self):
        self.check(self.SWAP, "ab:talk ca:show:hid", "flash:a", "flash:a holds:a:b talks:c:a:hid done",
                   "ab:hold0 ca:talk:hid")

    def test_a_swap_to_a_shown_call_leaves_the_held_one(self):
        self.check(self.SWAP, "ab:talk ad:hold0 ca:show", "flash:a", "flash:a holds:a:b talks:c:a done",
                   "ab:hold0 ad:hold0 ca:talk")

    def test_others_from_the_shown_calls_from_end(self):
        self.check(self.SWAP, "ab:talk ca:show cd:ring", "flash:a", "flash:a holds:a:b talks:c:a ends:c:d frees:d done",
                   "ab:hold0 ca:talk")
        self.check(self.SWAP, "ab:talk ca:show cb:busy cd:hold0", "flash:a",
                   "flash:a holds:a:b talks:c:a ends:c:b done", "ab:hold0 ca:talk cd:hold0")

    def test_the_first_of_two_shown_calls_talks(self):
        self.check(self.SWAP, "ab:talk ca:show da:show", "flash:a", "flash:a holds:a:b talks:c:a done",
                   "ab:hold0 ca:talk da:show")

    def test_a_swap_talks_with_the_first_that_was_held_ahead(self):
        self.check(self.SWAP, "ab:talk ac:hold0:hid", "flash:a", "flash:a holds:a:b talks:a:c:hid done",
                   "ab:hold0 ac:talk:hid")
        self.check(self.SWAP, "ab:talk ac:hold0 ad:hold0", "flash:a", "flash:a holds:a:b talks:a:c done",
                   "ab:hold0 ac:talk ad:hold0")
        self.check(self.SWAP, "ab:talk ca:hold1 da:hold1", "flash:a", "flash:a holds:a:b talks:c:a done",
                   "ab:hold0 ca:talk da:hold1")

    def test_a_swap_without_a_talk(self):
        self.check(self.SWAP, "ab:hold0 ac:hold0", "flash:a", "flash:a talks:a:b done", "ab:talk ac:hold0")
        self.check(self.SWAP, "ba:hold1", "flash:a", "flash:a talks:b:a done", "ba:talk")

    def test_a_swap_passes_by_those_whose_other_has_a_talk(self):
        self.check(self.SWAP, "ab:hold0 ac:hold0 bd:talk", "flash:a", "flash:a talks:a:c done",
                   "ab:hold0 ac:talk bd:talk")
        self.check(self.SWAP, "ab:talk ac:hold0 cd:talk", "flash:a", "flash:a holds:a:b done",
                   "ab:hold0 ac:hold0 cd:talk")
        self.check(self.SWAP, "ab:hold0 bd:talk", "flash:a", "flash:a done", "ab:hold0 bd:talk", minds=(1,))

    def test_a_swap_to_a_held_call_ends_no_others(self):
        self.check(self.SWAP, "ab:talk ca:hold1 cd:ring", "flash:a", "flash:a holds:a:b talks:c:a done",
                   "ab:hold0 ca:talk cd:ring")

    def test_a_swap_leaves_calls_that_others_hold(self):
        self.check(self.SWAP, "ab:talk ac:hold1", "flash:a", "flash:a holds:a:b done", "ab:hold0 ac:hold1")

    def test_a_swap_that_cant_be_done(self):
        for ahead in ("", "ab:ring", "ab:hold1", "ab:hold0 ac:busy", "ab:hold0 ca:ring"):
            self.check(self.SWAP, ahead, "flash:a", "flash:a done", ahead, minds=(1,))

    def test_a_join_of_one_held_call(self):
        self.check(self.JOIN, "ab:talk ac:hold0:hid", "flash:a", "flash:a talks:a:c:hid joins:a done",
                   "ab:talk ac:talk:hid", minds=(1,))

    def test_a_join_of_two_held_calls(self):
        self.check(self.JOIN, "ab:talk ad:hold0 ca:hold1", "flash:a", "flash:a talks:a:d talks:c:a joins:a done",
                   "ab:talk ad:talk ca:talk")

    def test_a_join_passes_by_those_whose_other_has_a_talk(self):
        house = house_of(("a", "0 flash * - join 1"), n=4)
        self.check(house, "ab:hold0 ac:hold0 ad:talk bd:talk", "flash:a", "flash:a talks:a:c joins:a done",
                   "ab:hold0 ac:talk ad:talk bd:talk")
        self.check(house, "ab:talk ac:hold0 ad:hold0 bc:talk", "flash:a", "flash:a talks:a:d joins:a done",
                   "ab:talk ac:hold0 ad:talk bc:talk")

    def test_a_join_leaves_shown_calls_and_those_that_others_hold(self):
        self.check(self.JOIN, "ab:talk ac:hold0 da:show", "flash:a", "flash:a talks:a:c joins:a done",
                   "ab:talk ac:talk da:show")
        self.check(self.JOIN, "ab:talk ac:hold0 ad:hold1", "flash:a", "flash:a talks:a:c joins:a done",
                   "ab:talk ac:talk ad:hold1")

    def test_a_join_ends_no_calls(self):
        self.check(self.JOIN, "ab:talk ca:hold1 cd:ring", "flash:a", "flash:a talks:c:a joins:a done",
                   "ab:talk ca:talk cd:ring")

    def test_a_join_that_cant_be_done(self):
        for ahead in ("", "ab:talk", "ab:hold0", "ab:talk ac:hold0 cd:talk", "ab:talk ac:hold1"):
            self.check(self.JOIN, ahead, "flash:a", "flash:a done", ahead, minds=(1,))

    def test_a_swap_where_a_join_cant_be_done(self):
        house = house_of(("a", "0 flash * - join 1"), ("a", "0 flash * - swap 1"))
        self.check(house, "ab:talk", "flash:a", "flash:a holds:a:b done", "ab:hold0", minds=(1, 1))
        self.check(house, "ab:talk ac:hold0", "flash:a", "flash:a talks:a:c joins:a done", "ab:talk ac:talk",
                   minds=(1, 0))


class Wait(DeedCase):
    def test_each_ring_waits_in_order(self):
        self.check(NO_WISHES, "", "wait", "wait done", "")
        self.check(NO_WISHES, "ab:ring:hid dc:ring", "wait", "wait waits:a:b:hid waits:d:c done", "ab:ring:hid dc:ring")

    def test_calls_that_do_not_ring_do_not_wait(self):
        for ahead in ("ab:talk", "ab:hold0", "ab:hold1", "ab:busy", "ab:shut", "ab:show bc:talk"):
            self.check(house_of(("b", "0 long * - shut 1")), ahead, "wait", "wait done", ahead, minds=(0,))

    def test_long_is_asked_of_the_line_at_which_it_rings(self):
        house = house_of(("b", "0 long a named pass 1", "0 long * - pass 2"), ("a", "0 long * - shut 1"))
        self.check(house, "ab:ring", "wait", "wait waits:a:b done", "ab:ring", minds=(1, 0))
        self.check(house, "ab:ring:hid", "wait", "wait waits:a:b:hid done", "ab:ring:hid", minds=(2, 0))
        self.check(house, "cb:ring", "wait", "wait waits:c:b done", "cb:ring", minds=(2, 0))

    def test_long_shut(self):
        house = house_of(("b", "0 long * used shut 1"))
        self.check(house, "ab:ring:hid", "wait", "wait waits:a:b:hid shut:a:b:hid frees:b done", "ab:shut:hid",
                   minds=(1,))

    def test_long_send(self):
        house = house_of(("b", "0 long * - send:c 1"))
        self.check(house, "ab:ring:hid", "wait",
                   "wait waits:a:b:hid sent:a:b:c:hid comes:a:c:hid rings:a:c:hid frees:b done", "ac:ring:hid")
        self.check(house, "ab:ring cd:talk", "wait",
                   "wait waits:a:b sent:a:b:c comes:a:c busy:a:c frees:b done", "ac:busy cd:talk")

    def test_long_send_that_cant_go_is_busy_where_it_rang(self):
        house = house_of(("b", "0 long * - send:a 1"), ("a", "0 met b - pass 1"))
        self.check(house, "ab:ring", "wait", "wait waits:a:b sent:a:b:a busy:a:b frees:b done", "ab:busy",
                   minds=(1, 1))
        house = house_of(("b", "0 long * - send:c 1"), ("a", "0 met b - pass 1"))
        for held in ("ac:hold0", "ca:busy"):
            self.check(house, "ab:ring " + held, "wait", "wait waits:a:b sent:a:b:c busy:a:b frees:b done",
                       "ab:busy " + held, minds=(1, 1))

    def test_long_send_goes_by_way_of_its_line(self):
        house = house_of(("b", "0 long * - send:c 1"), ("c", "0 in * - send:b 1"))
        self.check(house, "ab:ring", "wait", "wait waits:a:b sent:a:b:c comes:a:c sent:a:c:b busy:a:c frees:b done",
                   "ac:busy")
        house = house_of(("b", "0 long * - send:c 1"), ("c", "0 in * - send:d 1"))
        self.check(house, "ab:ring", "wait",
                   "wait waits:a:b sent:a:b:c comes:a:c sent:a:c:d comes:a:d rings:a:d frees:b done", "ad:ring")

    def test_a_ring_that_is_sent_does_not_wait_again(self):
        house = house_of(("b", "0 long * - send:c 1", "1 long * - shut 2"), ("c", "0 long * - shut 1"))
        self.check(house, "ab:ring", "wait", "wait waits:a:b sent:a:b:c comes:a:c rings:a:c frees:b done", "ac:ring",
                   minds=(1, 0))

    def test_several_rings_each_by_what_stands_then(self):
        house = house_of(("b", "0 long * - send:d 0"), ("c", "0 long * - send:d 0"))
        self.check(house, "ab:ring ac:ring", "wait",
                   "wait waits:a:b sent:a:b:d comes:a:d rings:a:d waits:a:c sent:a:c:d busy:a:c frees:b frees:c done",
                   "ac:busy ad:ring")

    def test_a_ring_that_was_sent_may_ring_where_another_one_rang(self):
        house = house_of(("b", "0 long * - send:c 1"), ("d", "0 long * - send:b 1"))
        self.check(house, "ab:ring ad:ring", "wait",
                   "wait waits:a:b sent:a:b:c comes:a:c rings:a:c waits:a:d sent:a:d:b comes:a:b rings:a:b frees:d "
                   "done", "ab:ring ac:ring", minds=(1, 1))

    def test_each_back_ends_behind_the_rings(self):
        self.check(NO_WISHES, "ab:back cd:ring", "wait", "wait waits:c:d ends:a:b frees:a done", "cd:ring")
        self.check(NO_WISHES, "ab:back bc:back cd:talk", "wait", "wait ends:a:b ends:b:c frees:a frees:b done",
                   "cd:talk")

    def test_a_back_that_comes_by_the_wait_stays(self):
        house = house_of(("c", "0 free a - ring 1"))
        self.check(house, "ab:back", "wait", "wait ends:a:b frees:a backs:c:a done", "ca:back", minds=(1,))


class Turn(DeedCase):
    def test_it_turns_day_and_night(self):
        self.check(NO_WISHES, "ab:talk", "turn", "turn night done", "ab:talk", night=0)
        self.check(NO_WISHES, "ab:talk", "turn", "turn day done", "ab:talk", night=1)

    def test_other_deeds_do_not(self):
        for deed in ("dial:a:b", "take:a", "drop:a", "flash:a", "wait"):
            for night in (0, 1):
                told, events = stepped(NO_WISHES, ((), night, (), ()), deed_in(deed))
                self.assertEqual(told[1], night)

    def test_wishes_are_asked_by_it(self):
        house = house_of(("b", "0 in * night shut 1"))
        self.check(house, "", "dial:a:b", "dial:a:b comes:a:b shut:a:b done", "ab:shut", night=1)
        self.check(house, "", "dial:a:b", "dial:a:b comes:a:b rings:a:b done", "ab:ring", night=0)


class Following(DeedCase):
    def test_a_shown_call_rings_where_its_line_has_no_talk(self):
        self.check(NO_WISHES, "ab:show:hid bc:talk", "drop:c", "drop:c ends:b:c rings:a:b:hid frees:c done",
                   "ab:ring:hid")
        self.check(NO_WISHES, "ab:show bc:talk", "drop:b", "drop:b ends:b:c rings:a:b frees:c done", "ab:ring")

    def test_a_shown_call_does_not_ring_where_its_line_talks(self):
        self.check(NO_WISHES, "ab:show bc:talk", "turn", "turn night done", "ab:show bc:talk")
        self.check(NO_WISHES, "ab:show bc:talk bd:talk", "drop:c", "drop:c ends:b:c frees:c done", "ab:show bd:talk")

    def test_a_shown_call_does_not_ring_where_another_rings(self):
        self.check(NO_WISHES, "ab:show cb:ring", "turn", "turn night done", "ab:show cb:ring")
        self.check(NO_WISHES, "ab:show bc:back", "turn", "turn night done", "ab:show bc:back")
        self.check(NO_WISHES, "ab:show bc:ring", "turn", "turn night rings:a:b done", "ab:ring bc:ring")
        self.check(NO_WISHES, "ab:show cb:back", "turn", "turn night rings:a:b done", "ab:ring cb:back")

    def test_of_two_shown_calls_to_a_line_the_first_rings(self):
        self.check(NO_WISHES, "ac:show bc:show", "turn", "turn night rings:a:c done", "ac:ring bc:show")

    def test_shown_calls_ring_in_order(self):
        self.check(NO_WISHES, "ab:show cd:show", "turn", "turn night rings:a:b rings:c:d done", "ab:ring cd:ring")

    def test_shown_calls_ring_behind_a_deed_that_cant_be_done_too(self):
        self.check(NO_WISHES, "ab:show", "take:c", "take:c rings:a:b done", "ab:ring")

    def test_a_shown_call_rings_ahead_of_lines_that_come_free(self):
        self.check(NO_WISHES, "ac:show bc:talk", "drop:b", "drop:b ends:b:c rings:a:c frees:b done", "ac:ring")

    def test_lines_come_free_rising(self):
        self.check(NO_WISHES, "da:talk db:hold0 dc:hold0", "drop:d",
                   "drop:d ends:d:a ends:d:b ends:d:c frees:a frees:b frees:c frees:d done", "")

    def test_a_line_that_was_free_does_not_come_free(self):
        self.check(NO_WISHES, "ab:busy", "drop:a", "drop:a ends:a:b frees:a done", "")

    def test_a_line_that_is_still_in_a_call_does_not_come_free(self):
        self.check(NO_WISHES, "ab:talk bc:hold0", "drop:a", "drop:a ends:a:b frees:a done", "bc:hold0")

    def test_lines_beyond_the_house_do_not_come_free(self):
        self.check(house_of(n=2), "ab:talk", "drop:a", "drop:a ends:a:b frees:a frees:b done", "")

    def test_a_ring_back(self):
        house = house_of(("c", "0 free b - ring 1"))
        self.check(house, "ab:talk", "drop:a", "drop:a ends:a:b frees:a frees:b backs:c:b done", "cb:back", minds=(1,))

    def test_free_is_asked_without_a_hid_call(self):
        house = house_of(("c", "0 free * named ring 1", "0 free * hid ring 2"))
        self.check(house, "ab:busy:hid", "drop:a", "drop:a ends:a:b frees:a backs:c:a done", "ca:back", minds=(1,))

    def test_a_ring_back_of_one_line_alone(self):
        house = house_of(("d", "0 free b - ring 1"), ("c", "0 free b - ring 1"))
        self.check(house, "ab:talk", "drop:a", "drop:a ends:a:b frees:a frees:b backs:d:b done", "db:back",
                   minds=(1, 0))

    def test_a_ring_back_of_the_next_line_where_the_first_is_used(self):
        house = house_of(("d", "0 free b - ring 1"), ("c", "0 free b - ring 1"))
        self.check(house, "ab:talk dc:busy", "drop:a", "drop:a ends:a:b frees:a frees:b backs:c:b done",
                   "cb:back dc:busy", minds=(1, 1))

    def test_a_line_that_is_rung_back_is_not_free_when_its_turn_comes(self):
        house = house_of(("b", "0 free a - ring 1"))
        self.check(house, "ab:talk", "drop:a", "drop:a ends:a:b frees:a backs:b:a done", "ba:back", minds=(1,))

    def test_a_line_behind_the_one_that_came_free_may_be_rung_for(self):
        house = house_of(("a", "0 free b - ring 1"))
        self.check(house, "ab:talk", "drop:b", "drop:b ends:a:b frees:a frees:b backs:a:b done", "ab:back", minds=(1,))

    def test_rings_back_rising(self):
        house = house_of(("c", "0 free b - ring 1", "1 free * - pass 3"), ("d", "0 free a - ring 1"))
        self.check(house, "ab:talk", "drop:a", "drop:a ends:a:b frees:a backs:d:a frees:b backs:c:b done",
                   "cb:back da:back", minds=(1, 1))

    def test_the_wish_of_a_line_is_not_asked_for_that_line(self):
        house = house_of(("a", "0 free * - pass 1", "1 free * - pass 2"))
        self.check(house, "ab:busy", "drop:a", "drop:a ends:a:b frees:a done", "", minds=(0,))


class Telling(DeedCase):
    """Each event is told to the tales as it happens, behind what it tells of."""

    def test_the_deeds_own_event_ahead_of_all(self):
        house = house_of(("a", "tale 0 dial a,b idle 1", "tale 0 dial a,b used 2"),
                         ("b", "tale 0 dial *,* idle 1"))
        self.check(house, "", "dial:a:b", "dial:a:b comes:a:b rings:a:b done", "ab:ring", tales=(1, 1))

    def test_turn_ahead_of_the_night_and_night_behind_it(self):
        house = house_of(("a", "tale 0 turn - day 1", "tale 1 night - night 2", "tale 2 done - night 3"))
        self.check(house, "", "turn", "turn night done", "", tales=(3,))
        house = house_of(("a", "tale 0 turn - night 1", "tale 1 day - day 2", "tale 2 done - day 3"))
        self.check(house, "", "turn", "turn day done", "", tales=(3,), night=1)

    def test_comes_and_sent_ahead_of_the_calls_being_there(self):
        house = house_of(("a", "0 out * - hide 0", "tale 0 comes a,b idle,hid 1", "tale 1 sent a,b,c idle,hid 2",
                          "tale 2 comes a,c idle,hid 3", "tale 3 rings a,c used,hid 4"),
                         ("b", "0 in * - send:c 0"))
        self.check(house, "", "dial:a:b",
                   "dial:a:b comes:a:b:hid sent:a:b:c:hid comes:a:c:hid rings:a:c:hid done", "ac:ring:hid",
                   tales=(4, 0))

    def test_a_ring_that_is_sent_at_a_wait_is_gone_ahead_of_sent(self):
        house = house_of(("b", "0 long * - send:c 0", "tale 0 waits a,b used 1", "tale 1 sent a,b,c idle 2"))
        self.check(house, "ab:ring", "wait", "wait waits:a:b sent:a:b:c comes:a:c rings:a:c frees:b done", "ac:ring",
                   tales=(2,))

    def test_each_also_behind_its_own_call(self):
        house = house_of(("b", "0 in * - also:c 0", "tale 0 rings a,c idle 1", "tale 1 rings a,b used 2"),
                         ("c", "tale 0 rings a,c used 1"))
        self.check(house, "", "dial:a:b", "dial:a:b comes:a:b rings:a:c rings:a:b done", "ab:ring ac:ring",
                   tales=(2, 1))

    def test_talks_and_ends_one_by_one(self):
        house = house_of(("b", "tale 0 talks a,b talk 1", "tale 1 ends a,c talk 2"),
                         ("c", "tale 0 talks a,b used 1", "tale 1 ends a,c idle 2"),
                         ("d", "tale 0 ends a,c used 1", "tale 1 ends a,d idle 2"))
        self.check(house, "ab:ring ac:ring ad:ring", "take:b",
                   "take:b talks:a:b ends:a:c ends:a:d frees:c frees:d done", "ab:talk", tales=(2, 2, 2))

    def test_holds_one_by_one(self):
        house = house_of(("a", "0 drop * - keep 0", "tale 0 holds a,b talk,held 1", "tale 1 holds a,c mute,held 2"))
        self.check(house, "ab:talk ac:talk", "drop:a", "drop:a holds:a:b holds:a:c done", "ab:hold0 ac:hold0",
                   tales=(2,))

    def test_a_swap_holds_ahead_of_the_talk(self):
        house = house_of(("a", "0 flash * - swap 0", "tale 0 holds a,b mute,held,shown 1",
                          "tale 1 talks c,a talk,held,clear 2"))
        self.check(house, "ab:talk ca:show", "flash:a", "flash:a holds:a:b talks:c:a done", "ab:hold0 ca:talk",
                   tales=(2,))

    def test_joins_behind_its_talks(self):
        house = house_of(("a", "0 flash * - join 0", "tale 0 talks a,c held 1", "tale 1 talks a,d bare 2",
                          "tale 2 joins a talk,bare 3"))
        self.check(house, "ab:talk ac:hold0 ad:hold0", "flash:a", "flash:a talks:a:c talks:a:d joins:a done",
                   "ab:talk ac:talk ad:talk", tales=(3,))

    def test_shown_calls_and_lines_that_come_free(self):
        house = house_of(("b", "tale 0 shows a,b shown 1", "tale 1 rings a,b clear,used 2"),
                         ("c", "tale 0 frees c idle 1", "tale 1 done - idle 2"))
        self.check(house, "ab:show bc:talk", "drop:c", "drop:c ends:b:c rings:a:b frees:c done", "ab:ring",
                   tales=(0, 2))
        house = house_of(("b", "0 full * - show 0", "tale 0 shows a,b talk,shown 1"))
        self.check(house, "bc:talk", "dial:a:b", "dial:a:b comes:a:b shows:a:b done", "ab:show bc:talk", tales=(1,))

    def test_backs_and_busy_and_shut(self):
        house = house_of(("c", "0 free a - ring 0", "tale 0 frees a idle 1", "tale 1 backs c,a used 2"))
        self.check(house, "ab:busy", "drop:a", "drop:a ends:a:b frees:a backs:c:a done", "ca:back", tales=(2,))
        house = house_of(("a", "tale 0 busy a,b used 1"))
        self.check(house, "bc:talk", "dial:a:b", "dial:a:b comes:a:b busy:a:b done", "ab:busy bc:talk", tales=(1,))
        house = house_of(("a", "0 out * - bar 0", "tale 0 shut a,b used 1"))
        self.check(house, "", "dial:a:b", "dial:a:b shut:a:b done", "ab:shut", tales=(1,))

    def test_a_broken_tale_stays_broken(self):
        house = house_of(("a", "tale 0 dial *,* - !", "tale 0 done - - 1"), ("b", "tale 0 done - - 1"))
        self.check(house, "", "dial:a:b", "dial:a:b comes:a:b rings:a:b done", "ab:ring", tales=(None, 1))
        told, events = stepped(house, ((), 0, (0, 0), (None, 0)), ("wait",))
        self.assertEqual(told[3], (None, 1))

    def test_tales_never_change_what_happens(self):
        plain = house_of(("b", "0 in * - send:c 0"))
        with_tale = house_of(("b", "0 in * - send:c 0", "tale 0 comes *,b - !"))
        for deed in all_deeds(4):
            one, other = (stepped(house, ((), 0, (0,), (0,)), deed) for house in (plain, with_tale))
            self.assertEqual(one[0][:3], other[0][:3])
            self.assertEqual(one[1], other[1])


class AnyScene(unittest.TestCase):
    """Of each scene with calls as point 9 has them, a deed tells a scene and its events."""

    HOWS = ("ring", "show", "talk", "hold0", "hold1", "busy", "shut", "back")
    HOUSES = (
        house_of(n=3),
        house_of(("a", "0 in * - also:b 1", "1 full * - show 0", "0 flash * - swap 2", "2 flash * - join 0"),
                 ("b", "0 in * - send:c 0", "0 full * - show 1", "1 drop * - keep 0", "0 long * - send:a 0"),
                 ("c", "0 in * used send:a 0", "0 long * - shut 0", "0 free * - ring 0", "0 met * - pass 1",
                  "1 free * - pass 0", "tale 0 rings *,* - 1", "tale 1 done - - !"), n=3),
    )

    def scenes(self, many):
        ways = [None] + [(way, how) for way in (0, 1) for how in self.HOWS]
        for at, chosen in enumerate(itertools.product(ways, repeat=3)):
            calls = []
            for pair, way in zip(((0, 1), (0, 2), (1, 2)), chosen):
                if way is not None:
                    calls.append((pair[way[0]], pair[1 - way[0]], way[1], at % 2))
            yield (tuple(sorted(calls)), at // 2 % 2, tuple((at + k) % 3 for k in range(many)), (0, 1, None)[:many])

    def check_calls(self, calls):
        self.assertIsInstance(calls, tuple)
        self.assertEqual(calls, tuple(sorted(calls)))
        for caller, to, how, hid in calls:
            self.assertIn(how, self.HOWS)
            self.assertIn(hid, (0, 1))
            self.assertNotEqual(caller, to)
        pairs = [tuple(sorted(call[:2])) for call in calls]
        self.assertEqual(len(pairs), len(set(pairs)), calls)

    def test_calls_stay_sorted_and_one_between_two(self):
        for house in self.HOUSES:
            deeds = all_deeds(3)
            for at, scene in enumerate(self.scenes(len(house[1]))):
                # Deeds and scenes both go round by 17, so the deeds are shifted each time.
                deed = deeds[(at + at // 17) % 17]
                before = repr((house, scene, deed))
                told, events = stepped(house, scene, deed)
                self.check_calls(told[0])
                self.assertEqual(events[0], (deed[0], deed[1:], 0))
                self.assertEqual(events[-1], ("done", (), 0))
                self.assertEqual([len(part) for part in (told[2], told[3])], [len(house[1])] * 2)
                self.assertEqual(repr((house, scene, deed)), before)
                self.assertEqual(stepped(house, scene, deed), (told, events))


if __name__ == "__main__":
    unittest.main()
