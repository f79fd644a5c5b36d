"""Told wishes: those that have a name, with their rules and tales."""

from callwishes.errors import NoWish
from callwishes.lines import is_below, is_pattern, letter_of, pattern_text
from callwishes.ruletexts import rule_in, tale_rule_in
from callwishes.wishes import MOST_LINES, is_tuple_of

# Rules and the tale's rules; M is the wish's own line, X its one other line, R its row of lines. Only these are great
# letters, so that they can be put in as they stand.
RULES = {
    "always": ("0 in * - send:X 0",),
    "night": ("0 in * night send:X 0",),
    "engaged": ("0 full * - send:X 0",),
    "late": ("0 long * - send:X 0",),
    "barred": ("0 out R - bar 0",),
    "keptout": ("0 in R - shut 0",),
    "quiet": ("0 in * night shut 0",),
    "hide": ("0 out * - hide 0",),
    "unhid": ("0 in * hid shut 0",),
    "names": (),
    "second": (
        "0 full * talk,clear show 0", "0 flash * talk,shown swap 0", "0 flash * talk,held swap 0",
        "0 flash * mute,held swap 0",
    ),
    "hold": ("0 flash * talk swap 0", "0 flash * mute,held swap 0"),
    "three": ("0 flash * talk,bare swap 0", "0 flash * talk,held join 0", "0 flash * mute,held swap 0"),
    "park": ("0 drop * talk keep 0",),
    "shared": ("0 in * idle also:X 0",),
    "back": ("0 met X - pass 1", "1 free X idle ring 0"),
}
TALES = {
    "always": ("0 comes *,M - 1", "1 sent *,M,X - 0", "1 done - - !"),
    "night": ("0 comes *,M night 1", "1 sent *,M,X - 0", "1 done - - !"),
    "engaged": ("0 comes *,M used 1", "1 sent *,M,X - 0", "1 done - - !"),
    "late": ("0 waits *,M - 1", "1 sent *,M,X - 0", "1 done - - !"),
    "barred": ("0 rings M,R - !", "0 shows M,R - !"),
    "keptout": ("0 rings R,M - !", "0 shows R,M - !"),
    "quiet": ("0 rings *,M night !", "0 shows *,M night !"),
    "hide": ("0 rings M,* named !", "0 shows M,* named !"),
    "unhid": ("0 rings *,M hid !", "0 shows *,M hid !"),
    "names": ("0 rings *,M hid !", "0 shows *,M hid !"),
    "second": (
        "0 comes *,M talk,clear 1", "1 shows *,M - 0", "1 done - - !", "0 flash M talk,shown 2", "2 talks *,M - 0",
        "2 done - - !",
    ),
    "hold": ("0 flash M talk 1", "1 holds M,* - 0", "1 done - - !"),
    "three": ("0 flash M talk,held 1", "1 joins M - 0", "1 done - - !"),
    "park": ("0 drop M talk 1", "1 holds M,* - 0", "1 done - - !"),
    "shared": ("0 sent *,M,* - !",),
    "back": ("0 busy M,X - 1", "1 frees X idle 2", "2 backs M,X - 0", "2 done - - !"),
}
NAMES_WITH_LINE = ("always", "night", "engaged", "late", "shared", "back")
NAMES_WITH_ROW = ("barred", "keptout")


def are_lines_of(name, me, lines):
    """Whether a told wish of this name, of line me, has such lines."""
    if name in NAMES_WITH_LINE:
        return is_tuple_of(lines, 1) and is_below(lines[0], MOST_LINES) and lines[0] != me
    if name in NAMES_WITH_ROW:
        return lines is not None and is_pattern(lines, MOST_LINES) and me not in lines
    return is_tuple_of(lines, 0)


def words_of(row, me, lines):
    """The words of a told row, with the letters of the wish's lines put in."""
    letters = pattern_text(lines)
    return row.replace("M", letter_of(me)).replace("X", letters).replace("R", letters).split(" ")


def told_wish(name, me, lines):
    """The told wish of this name, of line me."""
    if not isinstance(name, str) or name not in RULES or not is_below(me, MOST_LINES):
        raise NoWish("no told wish has such a name and line")
    if not are_lines_of(name, me, lines):
        raise NoWish(f"no told wish {name} has such lines")
    rules = tuple(rule_in(words_of(row, me, lines), me, MOST_LINES) for row in RULES[name])
    tale = tuple(tale_rule_in(words_of(row, me, lines), MOST_LINES) for row in TALES[name])
    return (me, rules, tale)
