"""Points of a call: which wishes are asked there, and what they answer."""

from callwishes.lines import fits
from callwishes.rooms import (
    are_so, between, has_free_hands, has_hold, has_talk, holds_of, is_free, other_of, shown_to,
)

ACTS_THAT_GO_ON = ("hide", "also")


def begun(house):
    """The scene in which a house begins."""
    nothing_yet = (0,) * len(house[1])
    return ((), 0, nothing_yet, nothing_yet)


def is_asked(me, point):
    """Whether a wish of line me is asked at the point."""
    kind, of_line, other, hid = point
    if kind == "free":
        return me != other
    return me == of_line


def rule_taken(wish, mind, calls, night, point):
    """The first rule of the wish that the point meets, or None."""
    kind, of_line, other, hid = point
    me, rules, tale = wish
    for rule in rules:
        if rule[0] == mind and rule[1] == kind and fits(rule[2], other) and are_so(calls, night, me, hid, rule[3]):
            return rule
    return None


def can_also(calls, other, act, acts):
    """Whether a call of the line other can ring at the act's line too, behind the acts told ahead."""
    line = act[1]
    if line == other or not is_free(calls, line) or between(calls, line, other) is not None:
        return False
    return all(told != act for number, told in acts)


def can_swap(calls, me):
    """Whether the line has a talk to hold, or a held call to come back to."""
    return has_talk(calls, me) or (has_hold(calls, me) and has_free_hands(calls, me))


def can_join(calls, me):
    """Whether the line has a talk and holds a call that could talk too."""
    if not has_talk(calls, me):
        return False
    return any(not has_talk(calls, other_of(call, me)) for call in holds_of(calls, me))


def can_be_done(calls, me, other, act, acts):
    """Whether the act of a wish of line me can be done, behind the acts told ahead."""
    word = act[0]
    if word == "also":
        return can_also(calls, other, act, acts)
    if word == "show":
        return has_talk(calls, me) and shown_to(calls, me) is None
    if word == "ring":
        return is_free(calls, me)
    if word == "swap":
        return can_swap(calls, me)
    if word == "join":
        return can_join(calls, me)
    if word == "keep":
        return has_talk(calls, me)
    return True


def asked(house, scene, point):
    """(acts, minds): what the wishes answer at the point, and their minds then."""
    calls, night, minds, tales = scene
    minds = list(minds)
    acts = []
    for number, wish in enumerate(house[1]):
        if not is_asked(wish[0], point):
            continue
        rule = rule_taken(wish, minds[number], calls, night, point)
        if rule is None:
            continue
        minds[number] = rule[5]
        act = rule[4]
        if act[0] == "pass" or not can_be_done(calls, wish[0], point[2], act, acts):
            continue
        acts.append((number, act))
        if act[0] not in ACTS_THAT_GO_ON:
            break
    return (tuple(acts), tuple(minds))
