"""Webs: the rows and steps through which shapes lead as closed walks."""

from standwaves.errors import NoWalk, Wrong
from standwaves.kinds import is_integer, is_number
from standwaves.rules import Rule
from standwaves.stands import window_at
from standwaves.walks import good_windows, period_of, web_by


class Web:
    """The web of the good windows of the shapes (p, q) of a rule."""

    def __init__(self, rule, p, q):
        if not isinstance(rule, Rule):
            raise Wrong(0)
        if not is_integer(p) or (is_number(q) and abs(p) > q):
            raise Wrong(1)
        if not is_number(q):
            raise Wrong(2)
        self._rule = rule
        self._p = p
        self._q = q
        self._windows = good_windows(rule, p, q)
        self._steps, self._parts = web_by(self._windows)

    @property
    def rule(self):
        """The Rule."""
        return self._rule

    @property
    def p(self):
        """By how many seats the shapes move."""
        return self._p

    @property
    def q(self):
        """In how many beats they do."""
        return self._q

    def __len__(self):
        return len(self._steps)

    def __eq__(self, other):
        return (isinstance(other, Web) and self._rule == other._rule
                and self._p == other._p and self._q == other._q)

    def windows(self):
        """Returns the ascending list of all good windows."""
        return list(self._windows)

    def nodes(self):
        """Returns the ascending list of the nodes."""
        return list(self._steps)

    def steps(self):
        """Returns the dict from each node to the ascending list of those to which steps lead."""
        return {row: list(self._steps[row]) for row in self._steps}

    def parts(self):
        """Returns the list of the parts, each as an ascending list, by their first nodes."""
        return [list(part) for part in self._parts]

    def periods(self):
        """Returns the list of the periods of the parts."""
        return [period_of(self._steps, part) for part in self._parts]

    def is_closed(self, thing):
        """Returns whether any value is a list of nodes that is a closed walk."""
        if not isinstance(thing, list) or len(thing) == 0:
            return False
        if not all([isinstance(row, str) and row in self._steps for row in thing]):
            return False
        ahead = thing[1:] + thing[:1]
        return all([other in self._steps[row] for row, other in zip(thing, ahead)])

    def stand_of(self, thing):
        """Returns the stand whose windows begin with the nodes of a closed walk; or NoWalk."""
        if not self.is_closed(thing):
            raise NoWalk(thing)
        return "".join([row[self._q] for row in thing])

    def walk_of(self, text):
        """Returns the nodes with which the windows of a stand begin, None if it is no shape (p, q)."""
        rows = [window_at(text, seat, self._q)[:-1] for seat in range(len(text))]
        return rows if self.is_closed(rows) else None
