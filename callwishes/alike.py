"""Houses that are alike: the same events in every row of deeds. Wishes without which a house is alike are idle.

Events don't hang on tales, so scenes stand here without them, as (calls, night, minds).
"""

from callwishes.books import check_many
from callwishes.choices import house_without
from callwishes.deeds import stepped
from callwishes.points import begun


def bare_step(house, bare, deed):
    """(scene without its tales, events) behind the deed."""
    scene, events = stepped(house, (*bare, begun(house)[3]), deed)
    return (scene[:3], events)


def begun_pair(one, other):
    """The pair of scenes in which two houses begin."""
    return (begun(one)[:3], begun(other)[:3])


def pair_behind(one, other, pair, deed):
    """The pair of scenes behind the deed, or None where the houses have other events by it."""
    bare_one, events_one = bare_step(one, pair[0], deed)
    bare_other, events_other = bare_step(other, pair[1], deed)
    return (bare_one, bare_other) if events_one == events_other else None


def alike_paper(one, other):
    """("alike", pairs) where all rows of deeds have the same events, else ("unlike", row)."""
    pairs = [begun_pair(one, other)]
    # Pairs and deeds are gone through in order, so the row by which a pair is first come to is its first by size.
    rows = {pairs[0]: ()}
    at = 0
    while at < len(pairs):
        ahead = pairs[at]
        at += 1
        for deed in one[2]:
            pair = pair_behind(one, other, ahead, deed)
            if pair is None:
                return ("unlike", (*rows[ahead], deed))
            if pair not in rows:
                rows[pair] = (*rows[ahead], deed)
                pairs.append(pair)
                check_many(pairs)
    return ("alike", tuple(pairs))


def without(house, k):
    """The house without the wish k."""
    return house_without(house, (k,))


def scene_without(scene, k):
    """The scene without the mind and the tale of the wish k."""
    calls, night, minds, tales = scene
    kept = [number for number in range(len(minds)) if number != k]
    return (calls, night, tuple(minds[number] for number in kept), tuple(tales[number] for number in kept))


def idle_wishes(house):
    """The wishes, rising, without which the house has the same events."""
    return tuple(k for k in range(len(house[1])) if alike_paper(house, without(house, k))[0] == "alike")
