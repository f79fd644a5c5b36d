"""Rules and tales' rules as rows of words."""

from callwishes.lines import pattern_in
from callwishes.wishes import is_rule, is_tale_rule
from callwishes.words import lined_in, parts_in, patterns_in, state_in


def rule_in(words, me, n):
    """The rule that the words STATE KIND PATTERN TESTS ACT NEXT are, of a wish of line me, or None."""
    if len(words) != 6:
        return None
    state, kind, pattern, tests, act, then = words
    rule = (state_in(state), kind, pattern_in(pattern), tuple(parts_in(tests)), lined_in(act), state_in(then))
    return rule if is_rule(rule, me, n) else None


def tale_rule_in(words, n):
    """The tale's rule that the words STATE WORD PATTERNS TESTS NEXT are, or None."""
    if len(words) != 5:
        return None
    state, word, patterns, tests, then = words
    behind = None if then == "!" else state_in(then)
    rule = (state_in(state), word, patterns_in(patterns), tuple(parts_in(tests)), behind)
    return rule if is_tale_rule(rule, n) else None
