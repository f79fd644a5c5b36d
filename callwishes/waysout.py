"""Ways out: how a line comes out of all its calls by deeds of its own, and lines that are in two talks."""

from callwishes.books import scenes_of
from callwishes.deeds import stepped
from callwishes.rooms import is_free, talks_of

MOST_DEEDS = 20


def longer_ways(house, ways, deeds, known):
    """(scene, row) of the scenes that one more deed first comes to; they are put down in known."""
    longer = []
    for ahead, row in ways:
        for deed in deeds:
            scene, events = stepped(house, ahead, deed)
            if scene not in known:
                known[scene] = True
                longer.append((scene, (*row, deed)))
    return longer


def way_out(house, scene, line):
    """The first row, by size, of takes and drops by which the line comes out of all calls, or None."""
    deeds = (("take", line), ("drop", line))
    ways = [(scene, ())]
    known = {scene: True}
    for size in range(MOST_DEEDS + 1):
        for behind, row in ways:
            if is_free(behind[0], line):
                return row
        if size < MOST_DEEDS:
            ways = longer_ways(house, ways, deeds, known)
    return None


def longest_way(house):
    """(many, scene, line) of the first longest way out; many None of the first scene and line without one."""
    most = -1
    longest = None
    for scene in scenes_of(house):
        for line in range(house[0]):
            way = way_out(house, scene, line)
            if way is None:
                return (None, scene, line)
            if len(way) > most:
                most = len(way)
                longest = (most, scene, line)
    return longest


def two_talks(house):
    """(scene, line) of the first scene in which a line has two talks, the least such line, or None."""
    for scene in scenes_of(house):
        for line in range(house[0]):
            if len(talks_of(scene[0], line)) > 1:
                return (scene, line)
    return None
