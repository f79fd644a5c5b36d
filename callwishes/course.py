"""The course of a deed: what stands while it goes on, and its events so far."""

from callwishes.points import asked
from callwishes.tales import told_on

WORD_OF_HOW = {
    "ring": "rings",
    "show": "shows",
    "talk": "talks",
    "busy": "busy",
    "shut": "shut",
    "back": "backs",
}


class Course:
    """A scene that a deed changes step by step.

    Every event goes through `tell`, so that the tales hear it as things stand just then.
    """

    def __init__(self, house, scene):
        self.house = house
        self.calls, self.night, self.minds, self.tales = scene
        self.events = []

    def scene(self):
        """The scene as it stands now."""
        return (self.calls, self.night, self.minds, self.tales)

    def tell(self, word, lines, hid=0):
        """Tells an event to the tales."""
        event = (word, lines, hid)
        self.events.append(event)
        self.tales = told_on(self.house, self.tales, self.calls, self.night, event)

    def ask(self, kind, me, other, hid):
        """Asks the wishes at a point; tells (wish's number, act) of those that act."""
        acts, self.minds = asked(self.house, self.scene(), (kind, me, other, hid))
        return acts

    def lift(self, call):
        """Takes the call away without an event."""
        self.calls = tuple(each for each in self.calls if each != call)

    def place(self, call):
        """Puts the call in place of one that was between its lines."""
        kept = [each for each in self.calls if each[:2] != call[:2]]
        self.calls = tuple(sorted([*kept, call]))

    def bring(self, call):
        """Puts the call, and tells the event of how it stands."""
        self.place(call)
        self.tell(WORD_OF_HOW[call[2]], call[:2], call[3])

    def end(self, calls):
        """Ends the calls in their order."""
        for call in calls:
            self.lift(call)
            self.tell("ends", call[:2])
