"""Houses and rows of deeds, read from texts."""

from callwishes.errors import NoText, NoWish
from callwishes.lines import is_below, pattern_in
from callwishes.ruletexts import rule_in, tale_rule_in
from callwishes.toldwishes import told_wish
from callwishes.wishes import LEAST_LINES, MOST_LINES, all_deeds, is_deed, is_house, is_wish
from callwishes.words import line_in, lined_in, state_in

# Which rows may stand behind one, by their first words; "" is the beginning.
FOLLOWERS = {
    "": ("lines",),
    "lines": ("wish", "deeds"),
    "wish": ("rule", "tale", "told", "wish", "deeds"),
    "rule": ("rule", "tale", "wish", "deeds"),
    "tale": ("tale", "wish", "deeds"),
    "told": ("wish", "deeds"),
    "deeds": (),
}


class Draft:
    """A house while its text is read.

    It holds rows that stand well by themselves; whether they make a house is asked at the end.
    """

    def __init__(self):
        self.last = ""
        self.n = 0
        self.wishes = []
        self.deeds = ()

    def made(self):
        """(n, wishes, deeds), as the rows read make them."""
        wishes = tuple((me, tuple(rules), tuple(tale)) for me, rules, tale in self.wishes)
        return (self.n, wishes, self.deeds)


def read_lines(draft, words):
    """Reads `lines N`; tells whether it is such a row."""
    draft.n = state_in(words[0]) if len(words) == 1 else -1
    return LEAST_LINES <= draft.n <= MOST_LINES


def read_wish(draft, words):
    """Reads `wish A`; tells whether it is such a row."""
    me = line_in(words[0]) if len(words) == 1 else -1
    draft.wishes.append((me, [], []))
    return is_below(me, draft.n)


def read_rule(draft, words):
    """Reads a rule's row; tells whether it is such a row."""
    me, rules, tale = draft.wishes[-1]
    rule = rule_in(words, me, draft.n)
    rules.append(rule)
    return rule is not None


def read_tale(draft, words):
    """Reads the row of a tale's rule; tells whether it is such a row."""
    me, rules, tale = draft.wishes[-1]
    rule = tale_rule_in(words, draft.n)
    tale.append(rule)
    return rule is not None


def told_in(words, me, n):
    """The told wish of line me that the words NAME or NAME LINES are, or None."""
    if len(words) not in (1, 2):
        return None
    lines = pattern_in(words[1]) if len(words) == 2 else ()
    try:
        wish = told_wish(words[0], me, lines)
    except NoWish:
        return None
    return wish if is_wish(wish, n) else None


def read_told(draft, words):
    """Reads a told row; tells whether it is such a row."""
    me, rules, tale = draft.wishes[-1]
    wish = told_in(words, me, draft.n)
    if wish is None:
        return False
    rules.extend(wish[1])
    tale.extend(wish[2])
    return True


def read_deeds(draft, words):
    """Reads the row of deeds; tells whether it is such a row."""
    draft.deeds = all_deeds(draft.n) if words == ["all"] else tuple(lined_in(word) for word in words)
    return all(is_deed(deed, draft.n) for deed in draft.deeds)


READERS = {
    "lines": read_lines,
    "wish": read_wish,
    "rule": read_rule,
    "tale": read_tale,
    "told": read_told,
    "deeds": read_deeds,
}


def can_read(draft, row):
    """Reads a row; tells whether it is one, and can stand where it stands."""
    word, *words = row.split(" ")
    if word not in FOLLOWERS[draft.last]:
        return False
    draft.last = word
    reader = READERS[word]
    return reader(draft, words)


def read_house(text):
    """The house that the text shows."""
    rows = text.split("\n")
    draft = Draft()
    for at, row in enumerate(rows):
        if not can_read(draft, row):
            raise NoText(at)
    house = draft.made()
    if draft.last != "deeds" or not is_house(house):
        raise NoText(len(rows))
    return house


def row_in(text):
    """The row of deeds that the text shows, or None."""
    deeds = () if text == "-" else tuple(lined_in(word) for word in text.split(" "))
    return deeds if all(is_deed(deed, MOST_LINES) for deed in deeds) else None
