"""Calls that stand in a house, and what they are to a line.

A call is (from, to, how, hid); calls stand as a sorted tuple.
"""

HOWS_AT_BOTH_ENDS = ("ring", "show", "talk", "hold0", "hold1")

OPPOSITES = {
    "day": "night",
    "mute": "talk",
    "bare": "held",
    "clear": "shown",
    "used": "idle",
    "named": "hid",
}


def is_in(call, line):
    """Whether the line is in the call."""
    return call[0] == line or (call[1] == line and call[2] in HOWS_AT_BOTH_ENDS)


def is_talk_of(call, line):
    """Whether the call is a talk that the line has."""
    return call[2] == "talk" and line in call[:2]


def is_held_by(call, line):
    """Whether it is this end of the call that holds it."""
    return (call[0] == line and call[2] == "hold0") or (call[1] == line and call[2] == "hold1")


def is_shown_to(call, line):
    """Whether the call is shown to the line."""
    return call[1] == line and call[2] == "show"


def is_ringing_at(call, line):
    """Whether the call rings at the line: a back rings at its from."""
    return (call[1] == line and call[2] == "ring") or (call[0] == line and call[2] == "back")


def other_of(call, line):
    """The other line of a call of this line."""
    return call[1] if call[0] == line else call[0]


def calls_of(calls, line):
    """The calls that the line is in, in order."""
    return tuple(call for call in calls if is_in(call, line))


def talks_of(calls, line):
    """The talks of the line, in order."""
    return tuple(call for call in calls if is_talk_of(call, line))


def holds_of(calls, line):
    """The calls that the line holds, in order."""
    return tuple(call for call in calls if is_held_by(call, line))


def shown_to(calls, line):
    """The first call that is shown to the line, or None."""
    for call in calls:
        if is_shown_to(call, line):
            return call
    return None


def rings_at(calls, line):
    """The first call that rings at the line, or None."""
    for call in calls:
        if is_ringing_at(call, line):
            return call
    return None


def between(calls, one, other):
    """The call between the two lines, whichever it is from, or None."""
    for call in calls:
        if call[:2] in ((one, other), (other, one)):
            return call
    return None


def has_talk(calls, line):
    """Whether the line has a talk."""
    return any(is_talk_of(call, line) for call in calls)


def has_hold(calls, line):
    """Whether the line holds a call."""
    return any(is_held_by(call, line) for call in calls)


def has_free_hands(calls, line):
    """Whether the line holds each call that it is in."""
    return all(is_held_by(call, line) for call in calls if is_in(call, line))


def is_free(calls, line):
    """Whether the line is in no call."""
    return not any(is_in(call, line) for call in calls)


def is_so(calls, night, me, hid, test):
    """Whether the test holds of the line me, hid being that of the call asked of."""
    if test in OPPOSITES:
        return not is_so(calls, night, me, hid, OPPOSITES[test])
    if test == "night":
        return night == 1
    if test == "talk":
        return has_talk(calls, me)
    if test == "held":
        return has_hold(calls, me)
    if test == "shown":
        return shown_to(calls, me) is not None
    if test == "idle":
        return is_free(calls, me)
    return hid == 1


def are_so(calls, night, me, hid, tests):
    """Whether all of the tests hold of the line me."""
    return all(is_so(calls, night, me, hid, test) for test in tests)
