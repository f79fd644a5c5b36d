"""Looks at papers of two houses: whether they show them alike, or a row by which they part. Nothing is searched for."""

from callwishes.alike import begun_pair, pair_behind
from callwishes.booklooks import are_deeds_of, is_bare_scene, is_paper
from callwishes.runs import ran
from callwishes.wishes import is_tuple_of


def is_pair(one, other, thing):
    """Whether a thing of any kind is a pair of scenes of both houses, without their tales."""
    return is_tuple_of(thing, 2) and is_bare_scene(one, thing[0]) and is_bare_scene(other, thing[1])


def shows_pairs(one, other, thing):
    """Whether a thing of any kind is a paper ("alike", pairs) that shows the houses alike."""
    if not is_paper(thing, "alike", 2) or not isinstance(thing[1], tuple):
        return False
    pairs = thing[1]
    if not all(is_pair(one, other, pair) for pair in pairs):
        return False
    known = {pair: True for pair in pairs}
    if len(known) < len(pairs) or begun_pair(one, other) not in known:
        return False
    # Where events differ, None is behind the deed, and None is never known.
    return all(pair_behind(one, other, pair, deed) in known for pair in pairs for deed in one[2])


def shows_parting(one, other, thing):
    """Whether a thing of any kind is a paper ("unlike", row) whose last deed has other events in both houses."""
    if not is_paper(thing, "unlike", 2) or not are_deeds_of(one, thing[1]) or len(thing[1]) == 0:
        return False
    return ran(one, thing[1])[1][-1] != ran(other, thing[1])[1][-1]


def shows_alike(one, other, thing):
    """Whether a thing of any kind is a paper that shows the houses alike, or a row by which they part."""
    return shows_pairs(one, other, thing) or shows_parting(one, other, thing)
