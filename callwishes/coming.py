"""How a call comes to a line, is sent on, shut, shown or busy there.

A call on its way is (from, hid, ways), ways the lines by way of which it came.
"""

from callwishes.rooms import between, is_free


def come(course, on_way, line):
    """The call comes to the line."""
    caller, hid, ways = on_way
    course.tell("comes", (caller, line), hid)
    acts = course.ask("in", line, caller, hid)
    for number, act in acts:
        if act[0] != "also":
            turn_away(course, on_way, line, act)
            return
        course.bring((caller, act[1], "ring", hid))
    if is_free(course.calls, line):
        course.bring((caller, line, "ring", hid))
    else:
        come_to_used(course, on_way, line)


def come_to_used(course, on_way, line):
    """The call has come to a line that is in another one."""
    caller, hid, ways = on_way
    acts = course.ask("full", line, caller, hid)
    if len(acts) == 0:
        be_busy(course, on_way, line)
        return
    act = acts[0][1]
    if act[0] == "show":
        course.bring((caller, line, "show", hid))
    else:
        turn_away(course, on_way, line, act)


def turn_away(course, on_way, line, act):
    """Does the act, shut or send, to a call that is at the line."""
    caller, hid, ways = on_way
    if act[0] == "shut":
        course.bring((caller, line, "shut", hid))
    else:
        send(course, on_way, line, act[1])


def send(course, on_way, line, to):
    """Sends the call on from the line, unless it can't go there."""
    caller, hid, ways = on_way
    course.tell("sent", (caller, line, to), hid)
    # A line by way of which it came is barred, or it could go round without end.
    if to == caller or to in ways or between(course.calls, caller, to) is not None:
        be_busy(course, on_way, line)
    else:
        come(course, (caller, hid, (*ways, line)), to)


def be_busy(course, on_way, line):
    """The call is busy at the line, and its from is asked about it."""
    caller, hid, ways = on_way
    course.bring((caller, line, "busy", hid))
    course.ask("met", caller, line, hid)
