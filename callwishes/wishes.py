"""Rules, tales, wishes, deeds and houses: which things are such."""

from callwishes.lines import are_tests, is_below, is_pattern, is_rising, is_word

STATES = 8
MOST_RULES = 12
MOST_TALE_RULES = 16
LEAST_LINES = 2
MOST_LINES = 4
MOST_WISHES = 6

ACTS_OF_KIND = {
    "out": ("bar", "hide", "pass"),
    "in": ("shut", "send", "also", "pass"),
    "full": ("shut", "send", "show", "pass"),
    "met": ("pass",),
    "long": ("shut", "send", "pass"),
    "flash": ("swap", "join", "pass"),
    "drop": ("keep", "pass"),
    "free": ("ring", "pass"),
}
KINDS_WITHOUT_OTHER = ("flash", "drop")
ACTS_WITH_LINE = ("send", "also")

LINES_OF_EVENT = {
    "dial": 2, "comes": 2, "rings": 2, "shows": 2, "busy": 2, "shut": 2,
    "talks": 2, "ends": 2, "waits": 2, "holds": 2, "backs": 2,
    "take": 1, "drop": 1, "flash": 1, "joins": 1, "frees": 1,
    "wait": 0, "turn": 0, "night": 0, "day": 0, "done": 0,
    "sent": 3,
}


def is_tuple_of(thing, many):
    """Whether a thing of any kind is a tuple of just so many parts."""
    return isinstance(thing, tuple) and len(thing) == many


def is_tuple_within(thing, most):
    """Whether a thing of any kind is a tuple of at most so many parts."""
    return isinstance(thing, tuple) and len(thing) <= most


def is_act(thing, kind, me, n):
    """Whether a thing of any kind is an act that a rule of this kind may have."""
    if not isinstance(thing, tuple) or len(thing) == 0:
        return False
    if not is_word(thing[0], ACTS_OF_KIND[kind]):
        return False
    if thing[0] in ACTS_WITH_LINE:
        return len(thing) == 2 and is_below(thing[1], n) and thing[1] != me
    return len(thing) == 1


def is_rule(thing, me, n):
    """Whether a thing of any kind is a rule of a wish of line me."""
    if not is_tuple_of(thing, 6):
        return False
    state, kind, pattern, tests, act, then = thing
    if not is_below(state, STATES) or not is_below(then, STATES):
        return False
    if not isinstance(kind, str) or kind not in ACTS_OF_KIND:
        return False
    if kind in KINDS_WITHOUT_OTHER and pattern is not None:
        return False
    return is_pattern(pattern, n) and are_tests(tests) and is_act(act, kind, me, n)


def is_tale_rule(thing, n):
    """Whether a thing of any kind is a tale's rule."""
    if not is_tuple_of(thing, 5):
        return False
    state, word, patterns, tests, then = thing
    if not is_below(state, STATES) or (then is not None and not is_below(then, STATES)):
        return False
    if not isinstance(word, str) or word not in LINES_OF_EVENT:
        return False
    if not is_tuple_of(patterns, LINES_OF_EVENT[word]):
        return False
    return all(is_pattern(pattern, n) for pattern in patterns) and are_tests(tests)


def is_wish(thing, n):
    """Whether a thing of any kind is a wish in a house of n lines."""
    if not is_tuple_of(thing, 3):
        return False
    me, rules, tale = thing
    if not is_below(me, n):
        return False
    if not is_tuple_within(rules, MOST_RULES) or not is_tuple_within(tale, MOST_TALE_RULES):
        return False
    return all(is_rule(rule, me, n) for rule in rules) and all(is_tale_rule(rule, n) for rule in tale)


def all_deeds(n):
    """All deeds of a house of n lines, in their order."""
    lines = list(range(n))
    deeds = [("dial", one, other) for one in lines for other in lines if one != other]
    for word in ("take", "drop", "flash"):
        deeds.extend([(word, line) for line in lines])
    return (*deeds, ("wait",), ("turn",))


def is_deed(thing, n):
    """Whether a thing of any kind is a deed of a house of n lines."""
    if not isinstance(thing, tuple) or len(thing) == 0:
        return False
    # Parts of unknown kinds are kept out first: a truth would pass for a line.
    if not isinstance(thing[0], str) or not all(is_below(line, n) for line in thing[1:]):
        return False
    return thing in all_deeds(n)


def are_deeds(thing, n):
    """Whether a thing of any kind is a tuple of unlike deeds, in their order."""
    if not isinstance(thing, tuple):
        return False
    if not all(is_deed(deed, n) for deed in thing):
        return False
    deeds = all_deeds(n)
    return is_rising([deeds.index(deed) for deed in thing])


def is_house(thing):
    """Whether a thing of any kind is a house."""
    if not is_tuple_of(thing, 3):
        return False
    n, wishes, deeds = thing
    if not is_below(n, MOST_LINES + 1) or n < LEAST_LINES:
        return False
    if not is_tuple_within(wishes, MOST_WISHES):
        return False
    return all(is_wish(wish, n) for wish in wishes) and are_deeds(deeds, n)
