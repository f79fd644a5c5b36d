"""The deeds, and what follows each of them."""

from callwishes.coming import come, turn_away
from callwishes.course import Course
from callwishes.rooms import (
    between, calls_of, has_free_hands, has_talk, holds_of, is_free, is_held_by, is_ringing_at, is_shown_to,
    other_of, rings_at, shown_to, talks_of,
)

HOWS_THAT_A_TALK_ENDS = ("ring", "show", "busy", "shut")


def changed(call, how):
    """The call, standing in another way."""
    return (call[0], call[1], how, call[3])


def dial(course, lines):
    """The deed dial."""
    caller, to = lines
    if has_free_hands(course.calls, caller) and between(course.calls, caller, to) is None:
        call_out(course, caller, to)


def call_out(course, caller, to):
    """A dial from its point out on."""
    words = [act[0] for number, act in course.ask("out", caller, to, 0)]
    hid = 1 if "hide" in words else 0
    if "bar" in words:
        course.bring((caller, to, "shut", hid))
    else:
        come(course, (caller, hid, ()), to)


def take(course, lines):
    """The deed take."""
    line = lines[0]
    call = rings_at(course.calls, line)
    if call is None or has_talk(course.calls, line):
        return
    if call[2] == "back":
        course.lift(call)
        call_out(course, line, call[1])
    else:
        answer(course, call)


def answer(course, call):
    """The call talks now, so all else that its from was trying ends."""
    course.bring(changed(call, "talk"))
    course.end([each for each in course.calls if each[0] == call[0] and each[2] in HOWS_THAT_A_TALK_ENDS])


def hold_talks(course, line):
    """Each talk of the line is held by it."""
    talks = talks_of(course.calls, line)
    for call in talks:
        course.place(changed(call, "hold0" if call[0] == line else "hold1"))
        course.tell("holds", (line, other_of(call, line)))


def drop(course, lines):
    """The deed drop."""
    line = lines[0]
    is_kept = len(course.ask("drop", line, None, 0)) > 0
    if is_kept:
        hold_talks(course, line)
    left = [call for call in calls_of(course.calls, line) if not stays_at_drop(call, line, is_kept)]
    course.end(left)


def stays_at_drop(call, line, is_kept):
    """Whether a call of the line outlasts its drop."""
    return is_ringing_at(call, line) or is_shown_to(call, line) or (is_kept and is_held_by(call, line))


def flash(course, lines):
    """The deed flash."""
    line = lines[0]
    acts = course.ask("flash", line, None, 0)
    for number, act in acts:
        if act[0] == "swap":
            swap(course, line)
        else:
            join(course, line)


def swap(course, line):
    """The line holds its talks, and talks with the call shown to it or with one that it held."""
    held_ahead = holds_of(course.calls, line)
    hold_talks(course, line)
    shown = shown_to(course.calls, line)
    if shown is not None:
        answer(course, shown)
        return
    for call in held_ahead:
        if not has_talk(course.calls, other_of(call, line)):
            course.bring(changed(call, "talk"))
            return


def join(course, line):
    """The line talks with those that it holds, too."""
    held_ahead = holds_of(course.calls, line)
    for call in held_ahead:
        if not has_talk(course.calls, other_of(call, line)):
            course.bring(changed(call, "talk"))
    course.tell("joins", (line,))


def wait(course, lines):
    """The deed wait."""
    rings = [call for call in course.calls if call[2] == "ring"]
    backs = [call for call in course.calls if call[2] == "back"]
    for call in rings:
        if call in course.calls:
            ring_long(course, call)
    course.end(backs)


def ring_long(course, call):
    """A ring has gone on for long."""
    caller, line, how, hid = call
    course.tell("waits", (caller, line), hid)
    acts = course.ask("long", line, caller, hid)
    for number, act in acts:
        course.lift(call)
        turn_away(course, (caller, hid, ()), line, act)


def turn(course, lines):
    """The deed turn."""
    course.night = 1 - course.night
    course.tell("night" if course.night == 1 else "day", ())


DOINGS = {
    "dial": dial,
    "take": take,
    "drop": drop,
    "flash": flash,
    "wait": wait,
    "turn": turn,
}


def ring_shown(course):
    """A shown call rings as soon as its line could take it."""
    shown = [call for call in course.calls if call[2] == "show"]
    for call in shown:
        if not has_talk(course.calls, call[1]) and rings_at(course.calls, call[1]) is None:
            course.bring(changed(call, "ring"))


def free_lines(course, calls_ahead):
    """Lines that the deed has freed are told, and may be rung back for."""
    for line in range(course.house[0]):
        if not is_free(calls_ahead, line) and is_free(course.calls, line):
            course.tell("frees", (line,))
            ring_back(course, line)


def ring_back(course, line):
    """One wish of another line may have its own line rung back for the freed one."""
    acts = course.ask("free", None, line, 0)
    for number, act in acts:
        me = course.house[1][number][0]
        course.bring((me, line, "back", 0))


def stepped(house, scene, deed):
    """(scene, events): the scene behind the deed, and all that happened by it."""
    course = Course(house, scene)
    lines = deed[1:]
    course.tell(deed[0], lines)
    doing = DOINGS[deed[0]]
    doing(course, lines)
    ring_shown(course)
    free_lines(course, scene[0])
    course.tell("done", ())
    return (course.scene(), tuple(course.events))
