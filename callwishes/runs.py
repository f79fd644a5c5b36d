"""Runs of deeds from the beginning, and the tales that broke."""

from callwishes.deeds import stepped
from callwishes.points import begun


def ran(house, deeds):
    """(scene, events of each deed): the scene to which the deeds lead, and what happened."""
    scene = begun(house)
    told = []
    for deed in deeds:
        scene, events = stepped(house, scene, deed)
        told.append(events)
    return (scene, tuple(told))


def broken(scene):
    """The wishes, rising, whose tale is broken."""
    return tuple(number for number, state in enumerate(scene[3]) if state is None)
