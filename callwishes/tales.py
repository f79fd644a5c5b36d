"""Tales: small machines of what is to happen, led on by each event."""

from callwishes.lines import fits
from callwishes.rooms import are_so


def all_fit(patterns, lines):
    """Whether each pattern fits its line."""
    return all(fits(pattern, line) for pattern, line in zip(patterns, lines))


def state_behind(wish, state, calls, night, event):
    """The state of the wish's tale behind the event."""
    word, lines, hid = event
    me, rules, tale = wish
    # No rule has the state None, so a broken tale stays broken.
    for rule in tale:
        if rule[0] == state and rule[1] == word and all_fit(rule[2], lines) and are_so(calls, night, me, hid, rule[3]):
            return rule[4]
    return state


def told_on(house, tales, calls, night, event):
    """The tales' states behind the event."""
    return tuple(state_behind(wish, state, calls, night, event) for wish, state in zip(house[1], tales))
