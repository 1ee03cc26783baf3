"""The desk: it keeps a plant in service, deed by deed."""

from untaughthelm.deeds import ACTIONS
from untaughthelm.errors import BadDeed, BadDesk, NoDeed
from untaughthelm.ratios import is_sequence, is_whole
from untaughthelm.records import Record
from untaughthelm.stands import Stand
from untaughthelm.stories import Story, frozen, is_deed


class Desk:
    """A desk with its plant, its run, its record and the program on duty; unlike all else it changes."""

    def __init__(self, field, size, inputs):
        if not is_whole(size, 1, 4):
            raise BadDesk("size")
        if not is_whole(inputs, 1, 3):
            raise BadDesk("inputs")
        self.field = field
        self.size = size
        self.inputs = inputs
        self._show((), (), Stand(Record(field, size, inputs)))

    def __eq__(self, other):
        return (isinstance(other, Desk) and self.field == other.field and self.size == other.size
                and self.inputs == other.inputs and self.deeds == other.deeds)

    def take_deed(self, deed):
        """Make a deed and return what it tells; a deed that raises leaves the desk as it was."""
        if not is_deed(deed):
            raise BadDeed("deed")
        word = deed[0]
        if word == "back":
            return self._take_back()
        action = ACTIONS[word]
        things = deed[1:]
        stand, told = action(self._now, *things)
        self._show(self.deeds + (frozen(deed),), self._past + (self._now,), stand)
        return told

    def tell_story(self):
        """Return the Story of the deeds that stand."""
        return Story(self.field, self.size, self.inputs, self.deeds)

    def tried(self, call):
        """Return what the function does with the desk, or raise it; the desk stays as it was."""
        deeds = self.deeds
        past = self._past
        stand = self._now
        try:
            return call(self)
        finally:
            # What _show does, which may not be called here.
            self.deeds = deeds
            self._past = past
            self._now = stand
            self.plant = stand.plant
            self.states = stand.states
            self.puts = stand.puts
            self.schedule = stand.schedule
            self.pushes = stand.pushes
            self.record = stand.record
            self.duty = stand.duty

    def _take_back(self):
        if self.deeds == ():
            raise NoDeed()
        deed = self.deeds[-1]
        self._show(self.deeds[:-1], self._past[:-1], self._past[-1])
        return deed

    def _show(self, deeds, past, stand):
        # The past has how the desk stood ahead of each deed.
        self.deeds = deeds
        self._past = past
        self._now = stand
        self.plant = stand.plant
        self.states = stand.states
        self.puts = stand.puts
        self.schedule = stand.schedule
        self.pushes = stand.pushes
        self.record = stand.record
        self.duty = stand.duty


def retell_story(story):
    """Return a new desk at which the deeds of the story were made one by one."""
    desk = Desk(story.field, story.size, story.inputs)
    for deed in story.deeds:
        if is_sequence(deed, 1) and deed[0] == "back":
            raise BadDeed("deed")
        desk.take_deed(deed)
    return desk
