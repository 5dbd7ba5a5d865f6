"""Game: a stand that is led by deeds, which can be undone."""

from standwaves.deeds import is_deed_of, is_refused, stage_after
from standwaves.errors import Full, NoDeed, NoEntry, Nothing, Refused, Wrong
from standwaves.kinds import is_stand
from standwaves.rules import Rule

_MOST_DEEDS = 200


class Game:
    """A stand led by deeds: its stages, one for each deed behind the first, and what was undone."""

    def __init__(self, rule, text):
        if not isinstance(rule, Rule):
            raise Wrong(0)
        if not is_stand(text, rule.signs):
            raise Wrong(1)
        # Tuples, which each call replaces as a whole: who goes over the log,
        # or keeps a stage for later, is not disturbed by further deeds.
        self._stages = ((rule, text, (), 0),)
        self._deeds = ()
        self._undone = ()

    @property
    def rule(self):
        """The Rule by which the next beats go."""
        return self._stages[-1][0]

    @property
    def text(self):
        """The stand."""
        return self._stages[-1][1]

    @property
    def beats(self):
        """How many beats there were, those that were undone not counted."""
        return self._stages[-1][3]

    def held(self):
        """Returns the ascending list of the stubborn seats."""
        return list(self._stages[-1][2])

    def _take(self, deed):
        """Does a deed that is not refused."""
        self._stages = self._stages + (stage_after(deed, self._stages[-1]),)
        self._deeds = self._deeds + (deed,)

    def do(self, deed):
        """Does a deed; or NoDeed, Full, Refused."""
        stage = self._stages[-1]
        if not is_deed_of(deed, stage):
            raise NoDeed(deed)
        if len(self._deeds) >= _MOST_DEEDS:
            raise Full(_MOST_DEEDS)
        if is_refused(deed, stage):
            raise Refused(deed)
        self._take(deed)
        self._undone = ()

    def log(self):
        """Returns the list of the deeds done."""
        return list(self._deeds)

    def __len__(self):
        return len(self._deeds)

    def __iter__(self):
        return iter(self._deeds)

    def undo(self):
        """Undoes the last deed and returns it; or Nothing."""
        if len(self._deeds) == 0:
            raise Nothing()
        deed = self._deeds[-1]
        self._stages = self._stages[:-1]
        self._deeds = self._deeds[:-1]
        self._undone = self._undone + (deed,)
        return deed

    def redo(self):
        """Does the deed that was undone last, and returns it; or Nothing."""
        if len(self._undone) == 0:
            raise Nothing()
        deed = self._undone[-1]
        self._take(deed)
        self._undone = self._undone[:-1]
        return deed

    def past(self, many):
        """Returns a new Game with the first many deeds of the log alone; or NoEntry."""
        if many < 0 or many > len(self._deeds):
            raise NoEntry(many)
        rule, text = self._stages[0][:2]
        game = Game(rule, text)
        game._stages = self._stages[:many + 1]
        game._deeds = self._deeds[:many]
        return game

    def copied(self):
        """Returns a copy, with what can be redone."""
        game = self.past(len(self._deeds))
        game._undone = self._undone
        return game

    def trial(self, act):
        """Returns what act returns for this Game; then all is as it was, also if an error came."""
        stages = self._stages
        deeds = self._deeds
        undone = self._undone
        try:
            return act(self)
        finally:
            self._stages = stages
            self._deeds = deeds
            self._undone = undone

    def __eq__(self, other):
        return (isinstance(other, Game) and self._stages[0] == other._stages[0]
                and self._deeds == other._deeds)
