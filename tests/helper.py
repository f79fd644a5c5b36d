"""What several tests use: houses written as texts, things of odd kinds, and parts put into things.

Calls are written as ab:talk or ab:talk:hid, events as rings:a:b or rings:a:b:hid, rules as in
`0 in * night send:c 0`, tales' rules as in `tale 0 comes *,b used 1`, with `!` for broken, deeds as dial:a:b.
"""

import unittest

from callwishes.showing import show_house
from callwishes.wishes import all_deeds, is_house


def deed_in(text):
    word, *lines = text.split(":")
    return (word, *["abcd".index(letter) for letter in lines])


def row_in(text):
    return tuple(deed_in(word) for word in text.split())


def calls_in(text):
    calls = []
    for word in text.split():
        lines, how, *hid = word.split(":")
        calls.append(("abcd".index(lines[0]), "abcd".index(lines[1]), how, len(hid)))
    return tuple(sorted(calls))


def calls_text(calls):
    return " ".join("abcd"[call[0]] + "abcd"[call[1]] + ":" + call[2] + ":hid" * call[3] for call in calls)


def events_text(events):
    return " ".join(":".join((word, *["abcd"[line] for line in lines])) + ":hid" * hid for word, lines, hid in events)


def pattern_in(word):
    return None if word == "*" else tuple("abcd".index(letter) for letter in word)


def rule_in(row):
    state, kind, pattern, tests, act, then = row.split()
    tests = () if tests == "-" else tuple(tests.split(","))
    return (int(state), kind, pattern_in(pattern), tests, deed_in(act), int(then))


def tale_rule_in(row):
    tale, state, word, patterns, tests, then = row.split()
    patterns = () if patterns == "-" else tuple(pattern_in(each) for each in patterns.split(","))
    tests = () if tests == "-" else tuple(tests.split(","))
    return (int(state), word, patterns, tests, None if then == "!" else int(then))


def wish_in(letter, *rows):
    rules = tuple(rule_in(row) for row in rows if not row.startswith("tale"))
    tale = tuple(tale_rule_in(row) for row in rows if row.startswith("tale"))
    return ("abcd".index(letter), rules, tale)


def house_of(*wishes, n=4, deeds=""):
    """A house; each wish is (letter of its line, row, row, ..); deeds are a text, or "all"."""
    house = (n, tuple(wish_in(*wish) for wish in wishes), all_deeds(n) if deeds == "all" else row_in(deeds))
    assert is_house(house), house
    return house


def sheet_of(house, *questions):
    """A sheet of the house."""
    return "\n".join((show_house(house), "ask", *questions))


def scene_of(house, calls="", night=0, minds=None, tales=None):
    """A scene of the house; states that aren't told are 0."""
    nothing_yet = (0,) * len(house[1])
    return (calls_in(calls), night, nothing_yet if minds is None else minds, nothing_yet if tales is None else tales)


# Point 32's wishes, for line b, with X c and R ac where they have any.
ALWAYS = ("b", "0 in * - send:c 0", "tale 0 comes *,b - 1", "tale 1 sent *,b,c - 0", "tale 1 done - - !")
ENGAGED = ("b", "0 full * - send:c 0", "tale 0 comes *,b used 1", "tale 1 sent *,b,c - 0", "tale 1 done - - !")
LATE = ("b", "0 long * - send:c 0", "tale 0 waits *,b - 1", "tale 1 sent *,b,c - 0", "tale 1 done - - !")
BARRED = ("b", "0 out ac - bar 0", "tale 0 rings b,ac - !", "tale 0 shows b,ac - !")
KEPTOUT = ("b", "0 in ac - shut 0", "tale 0 rings ac,b - !", "tale 0 shows ac,b - !")
SECOND = ("b", "0 full * talk,clear show 0", "0 flash * talk,shown swap 0", "0 flash * talk,held swap 0",
          "0 flash * mute,held swap 0", "tale 0 comes *,b talk,clear 1", "tale 1 shows *,b - 0", "tale 1 done - - !",
          "tale 0 flash b talk,shown 2", "tale 2 talks *,b - 0", "tale 2 done - - !")
HOLD = ("b", "0 flash * talk swap 0", "0 flash * mute,held swap 0", "tale 0 flash b talk 1", "tale 1 holds b,* - 0",
        "tale 1 done - - !")
THREE = ("b", "0 flash * talk,bare swap 0", "0 flash * talk,held join 0", "0 flash * mute,held swap 0",
         "tale 0 flash b talk,held 1", "tale 1 joins b - 0", "tale 1 done - - !")
PARK = ("b", "0 drop * talk keep 0", "tale 0 drop b talk 1", "tale 1 holds b,* - 0", "tale 1 done - - !")
BACK = ("b", "0 met c - pass 1", "1 free c idle ring 0", "tale 0 busy b,c - 1", "tale 1 frees c idle 2",
        "tale 2 backs b,c - 0", "tale 2 done - - !")


def ordered_house(many, *befores, n=4):
    """A house of line b's wishes that is quiet just where of each two (i, j) the wish i stands ahead of j.

    Calls of the k-th two's own caller are shut by i, whose tale wants that, and sent on by j.
    """
    rows = [["b"] for _ in range(many)]
    callers = [letter for letter in "acd"[:n - 1]]
    for letter, (i, j) in zip(callers, befores, strict=False):
        aim = "a" if letter == "c" else "c"
        rows[i] += [f"0 in {letter} - shut 0", f"tale 0 comes {letter},b - 1", f"tale 1 shut {letter},b - 0"]
        rows[j] += [f"0 in {letter} - send:{aim} 0"]
    for row in rows:
        if len(row) > 1 and any(each.startswith("tale") for each in row):
            row.append("tale 1 done - - !")
    return house_of(*[tuple(row) for row in rows], n=n, deeds=" ".join(f"dial:{letter}:b" for letter in callers))


def counting(line, deed, states, *rows):
    """A wish of the line whose tale goes round so many states, one with each such deed."""
    word, *lines = deed.split(":")
    patterns = ",".join(lines) or "-"
    counts = [f"tale {state} {word} {patterns} idle {(state + 1) % states}" for state in range(states)]
    return (line, *counts, *rows)


def orbit(line, kind, tail, cycle):
    """A wish of the line whose mind goes by a deed of this kind through a tail of states, then round a cycle."""
    last = tail + cycle - 1
    return (line, *[f"{state} {kind} * - pass {state + 1 if state < last else tail}" for state in range(last + 1)])


class Thorny:
    """Hurts whoever does more with it than ask of which kind it is."""

    def hurt(self, *args):
        raise RuntimeError("a thing of no known kind was used")

    __eq__ = __ne__ = __lt__ = __le__ = __gt__ = __ge__ = hurt
    __hash__ = __len__ = __iter__ = __bool__ = __getitem__ = __contains__ = hurt
    __index__ = __int__ = __str__ = __repr__ = __add__ = __radd__ = hurt


def nested(kind, deep):
    thing = 0
    for _ in range(deep):
        thing = kind((thing,))
    return thing


def shared(deep):
    """A small thing that is endless to whoever goes through all of it."""
    thing = ()
    for _ in range(deep):
        thing = (thing, thing)
    return thing


# None of these can stand anywhere in a paper, but None in a scene's tales and () where a tuple may be empty.
ODD_PARTS = [
    True, False, -1, 8, 99, 10 ** 50, 1.0, float("nan"), 1j, "", "x", "Quiet", b"quiet", bytearray(b"x"), [], [0], {},
    {0: 1}, set(), {0}, frozenset(), range(2), object(), Thorny(), Thorny, len, iter(()), Ellipsis, NotImplemented,
    ("x",), (True,), (None,), (Thorny(),), ([],), ({},), (1.0,), nested(tuple, 30), nested(list, 30), shared(30),
]

WHOLE_THINGS = [*ODD_PARTS, None, (), "quiet", "quarrel", ("quiet",), ("quarrel",), ["quiet", ()], {"quiet": ()},
                nested(tuple, 40), nested(list, 40), nested(tuple, 39), shared(40)]


def places_in(thing, place=()):
    """The places of all parts of a tuple, and of their parts."""
    yield place
    if isinstance(thing, tuple):
        for at, part in enumerate(thing):
            yield from places_in(part, place + (at,))


def put(thing, place, part):
    """The thing with another part at the place."""
    if not place:
        return part
    at = place[0]
    return thing[:at] + (put(thing[at], place[1:], part),) + thing[at + 1:]


def found(thing, place):
    for at in place:
        thing = thing[at]
    return thing


class LookCase(unittest.TestCase):
    def check_odd_parts(self, look, thing):
        """Spoilt by an odd part in any place, the thing isn't taken any more."""
        self.assertIs(look(thing), True)
        for place in places_in(thing):
            for at, part in enumerate(ODD_PARTS):
                self.assertIs(look(put(thing, place, part)), False, (place, at))

    def check_kinds(self, look, thing):
        """Neither a list for a tuple, nor a truth for a number, nor a part more is taken."""
        for place in places_in(thing):
            part = found(thing, place)
            if isinstance(part, tuple):
                self.assertIs(look(put(thing, place, list(part))), False, place)
                self.assertIs(look(put(thing, place, (*part, Thorny()))), False, place)
            if part in (0, 1) and isinstance(part, int):
                self.assertIs(look(put(thing, place, bool(part))), False, place)
                self.assertIs(look(put(thing, place, float(part))), False, place)
            if isinstance(part, str):
                self.assertIs(look(put(thing, place, part.encode())), False, place)
                self.assertIs(look(put(thing, place, part.upper())), False, place)


def has_told_kinds(told):
    """Whether a thing is of tuples, whole numbers, texts and None alone."""
    if type(told) is tuple:
        return all(has_told_kinds(part) for part in told)
    return type(told) in (int, str, type(None))


# Houses of few deeds, quiet ones and quarrels, so that all their rows can be gone through.
SMALL_HOUSES = {
    "no wishes, no deeds": house_of(n=2),
    "no wishes, one deed": house_of(n=2, deeds="turn"),
    "no wishes, all deeds": house_of(n=2, deeds="all"),
    "wishes, no deeds": house_of(ALWAYS, KEPTOUT, n=3),
    "one wish, one deed": house_of(ALWAYS, n=3, deeds="dial:a:b"),
    "kept by order": house_of(ALWAYS, KEPTOUT, n=3, deeds="dial:a:b dial:c:b take:c drop:a"),
    "broken by order": house_of(KEPTOUT, ALWAYS, n=3, deeds="dial:a:b dial:c:b take:c drop:a"),
    "broken at once": house_of(("a", "tale 0 turn - - 1", "tale 1 rings a,b - !"), ("c", "tale 0 rings a,b - !"),
                               ("b", "tale 0 rings a,b - !"), n=3, deeds="dial:a:b turn"),
    "two rows of one size": house_of(("b", "tale 0 talks *,b night !"), n=3, deeds="dial:a:b dial:c:b take:b turn"),
    "broken behind the longer row": house_of(("b", "tale 0 ends *,b - !", "tale 0 night - - 1", "tale 1 day - - !"),
                                             n=2, deeds="dial:a:b take:b drop:a turn"),
    "quiet with minds": house_of(("b", "0 in * - pass 1", "1 in * - shut 2", "2 in * night pass 0"), n=2,
                                 deeds="dial:a:b drop:a turn"),
    "broken late": house_of(("a", "0 drop * - pass 1", "1 out * - bar 1", "tale 0 shut a,b - 1", "tale 1 drop a - !"),
                            n=2, deeds="dial:a:b drop:a turn"),
}

# In its own order this house has 400 scenes; with the counting wish ahead it has too many, as that one goes round
# eight states with the calls that the other shuts.
MANY_BY_ORDER = house_of(
    ("b", "0 in * - shut 0", *[f"tale {state} flash b - {(state + 1) % 5}" for state in range(5)]),
    ("b", *[f"{state} in * - pass {(state + 1) % 8}" for state in range(8)]), n=3, deeds="all")

# Two wishes that each break without the other: each shuts what the other's tale wants shut.
NEED_EACH_OTHER = (
    ("b", "0 in a - shut 0", "tale 0 comes c,b - 1", "tale 1 shut c,b - 0", "tale 1 done - - !"),
    ("b", "0 in c - shut 0", "tale 0 comes a,b - 1", "tale 1 shut a,b - 0", "tale 1 done - - !"),
)
