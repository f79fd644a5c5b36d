"""Looks at papers of books: whether they show a house quiet, or a quarrel in it. Nothing is searched for."""

from callwishes.deeds import stepped
from callwishes.lines import is_below, is_word
from callwishes.points import begun
from callwishes.runs import broken, ran
from callwishes.wishes import STATES, is_deed, is_tuple_of

HOWS = ("ring", "show", "talk", "hold0", "hold1", "busy", "shut", "back")


def is_call(thing, n):
    """Whether a thing of any kind is a call in a house of n lines."""
    if not is_tuple_of(thing, 4):
        return False
    caller, to, how, hid = thing
    if not is_below(caller, n) or not is_below(to, n) or caller == to:
        return False
    return is_word(how, HOWS) and is_below(hid, 2)


def are_calls(thing, n):
    """Whether a thing of any kind is a sorted tuple of calls, at most one between two lines."""
    if not isinstance(thing, tuple) or not all(is_call(call, n) for call in thing):
        return False
    pairs = [(min(call[:2]), max(call[:2])) for call in thing]
    return len(set(pairs)) == len(pairs) and list(thing) == sorted(thing)


def is_bare_scene(house, thing):
    """Whether a thing of any kind is a scene of the house without its tales: (calls, night, minds)."""
    if not is_tuple_of(thing, 3):
        return False
    calls, night, minds = thing
    if not are_calls(calls, house[0]) or not is_below(night, 2):
        return False
    return is_tuple_of(minds, len(house[1])) and all(is_below(state, STATES) for state in minds)


def is_scene(house, thing):
    """Whether a thing of any kind is a scene of the house, whether or not deeds lead to it."""
    if not is_tuple_of(thing, 4) or not is_bare_scene(house, thing[:3]):
        return False
    tales = thing[3]
    if not is_tuple_of(tales, len(house[1])):
        return False
    return all(state is None or is_below(state, STATES) for state in tales)


def are_kept_scenes(house, thing):
    """Whether a thing of any kind is a tuple of scenes of the house in which no tale is broken."""
    if not isinstance(thing, tuple) or not all(is_scene(house, scene) for scene in thing):
        return False
    return all(len(broken(scene)) == 0 for scene in thing)


def all_lead_into(house, scenes, known):
    """Whether each of the house's deeds leads from each of the scenes to a known one."""
    return all(stepped(house, scene, deed)[0] in known for scene in scenes for deed in house[2])


def is_paper(thing, word, many):
    """Whether a thing of any kind is a tuple of so many parts, the word first."""
    return is_tuple_of(thing, many) and is_word(thing[0], (word,))


def shows_book(house, thing):
    """Whether a thing of any kind is a paper ("quiet", scenes) that shows the house quiet."""
    if not is_paper(thing, "quiet", 2) or not are_kept_scenes(house, thing[1]):
        return False
    scenes = thing[1]
    known = {scene: True for scene in scenes}
    if len(known) < len(scenes) or begun(house) not in known:
        return False
    return all_lead_into(house, scenes, known)


def are_deeds_of(house, thing):
    """Whether a thing of any kind is a row of the house's deeds."""
    if not isinstance(thing, tuple):
        return False
    return all(is_deed(deed, house[0]) and deed in house[2] for deed in thing)


def are_closed(house, layers):
    """Whether each deed from a layer but the last leads into the layers up to the next one."""
    known = {}
    for at, layer in enumerate(layers):
        for scene in layer:
            known[scene] = True
        if at > 0 and not all_lead_into(house, layers[at - 1], known):
            return False
    return True


def shows_quarrel(house, thing):
    """Whether a thing of any kind is a paper ("quarrel", row, k, layers) that shows a shortest row to a broken tale."""
    if not is_paper(thing, "quarrel", 4):
        return False
    word, row, k, layers = thing
    if not are_deeds_of(house, row) or not is_below(k, len(house[1])):
        return False
    if not is_tuple_of(layers, len(row)) or not all(are_kept_scenes(house, layer) for layer in layers):
        return False
    # Behind no deed no tale is broken, so from here on there is a first layer.
    if k not in broken(ran(house, row)[0]):
        return False
    return begun(house) in layers[0] and are_closed(house, layers)


def shows_quiet(house, thing):
    """Whether a thing of any kind is a paper that shows the house quiet, or a quarrel in it."""
    return shows_book(house, thing) or shows_quarrel(house, thing)
