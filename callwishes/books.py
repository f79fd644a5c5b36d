"""Books: the scenes to which a house's deeds lead, and papers of a quiet house or of a quarrel."""

from callwishes.deeds import stepped
from callwishes.errors import TooMany
from callwishes.points import begun
from callwishes.runs import broken

MOST_SCENES = 2000


def check_many(scenes):
    """Refuses more scenes, or pairs of them, than are gone through."""
    if len(scenes) > MOST_SCENES:
        raise TooMany(f"more than {MOST_SCENES} scenes")


def led_to(house, scene):
    """The scenes to which the house's deeds lead from this one, deed by deed."""
    return [stepped(house, scene, deed)[0] for deed in house[2]]


def scenes_of(house):
    """All scenes to which rows of the house's deeds lead, as they are come to."""
    scenes = [begun(house)]
    known = {begun(house): True}
    at = 0
    while at < len(scenes):
        ahead = scenes[at]
        at += 1
        if len(broken(ahead)) > 0:
            continue
        for scene in led_to(house, ahead):
            if scene not in known:
                known[scene] = True
                scenes.append(scene)
        check_many(scenes)
    return tuple(scenes)


def steps_from(house, layer):
    """(scene, deed, scene behind it) of all deeds from the scenes of a layer, in order."""
    return [
        (scene, deed, behind)
        for scene in layer
        for deed, behind in zip(house[2], led_to(house, scene))
    ]


def new_layer(steps, rows):
    """The scenes that the steps come to first; each one's row is put down in rows."""
    layer = []
    for ahead, deed, scene in steps:
        if scene not in rows:
            rows[scene] = (*rows[ahead], deed)
            layer.append(scene)
    return tuple(layer)


def quiet_paper(house):
    """("quiet", scenes) where no tale breaks, else ("quarrel", row, k, layers)."""
    layer = (begun(house),)
    layers = []
    # Scenes and deeds are gone through in order, so the row by which a scene is first come to is its first by size.
    rows = {begun(house): ()}
    while len(layer) > 0:
        layers.append(layer)
        # A layer counts only here, once it is one of the paper's: a break on the way to it makes it none.
        check_many(rows)
        steps = steps_from(house, layer)
        for ahead, deed, scene in steps:
            if len(broken(scene)) > 0:
                return ("quarrel", (*rows[ahead], deed), broken(scene)[0], tuple(layers))
        layer = new_layer(steps, rows)
    return ("quiet", tuple(rows))
