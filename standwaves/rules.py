"""Rules: what each seat becomes at a beat."""

from standwaves.errors import Wrong
from standwaves.kinds import is_integer, is_table
from standwaves.stands import is_alive


def _middles_by(table, signs):
    """Returns the dict from all rows of three signs to what their middles become a beat later."""
    following = dict(zip(signs[1:], signs[2:] + "0"))
    standing = {sign: int(sign == "1") for sign in signs}
    return {left + seat + right: table[2 * standing[left] + standing[right]] if seat == "0" else following[seat]
            for left in signs for seat in signs for right in signs}


class Rule:
    """A table, which tells who stands up, and the number of the rests after standing."""

    def __init__(self, table, rests=1):
        if not is_table(table):
            raise Wrong(0)
        if not is_integer(rests) or rests < 0 or rests > 2:
            raise Wrong(1)
        self._table = table
        self._rests = rests
        signs = "0123"[:2 + rests]
        self._signs = signs
        # Kept for all rows of three, since beats ask for nothing else.
        self._becomes = _middles_by(table, signs)

    @property
    def table(self):
        """The string of four characters 0 and 1."""
        return self._table

    @property
    def rests(self):
        """The number of rests, from 0 to 2."""
        return self._rests

    @property
    def signs(self):
        """The string of the signs of this rule, ascending."""
        return self._signs

    def __eq__(self, other):
        return isinstance(other, Rule) and self._table == other._table and self._rests == other._rests

    def __call__(self, left, seat, right):
        """Returns the sign that a seat between two neighbours has a beat later."""
        return self._becomes[left + seat + right]

    def ring_after(self, text):
        """Returns a stand a beat later."""
        # Written out rather than by inner_after, since nothing is asked more often.
        becomes = self._becomes
        row = text[-1] + text + text[0]
        return "".join([becomes[row[at:at + 3]] for at in range(len(text))])

    def inner_after(self, row):
        """Returns what becomes of the characters of a row that have neighbours on both sides."""
        becomes = self._becomes
        return "".join([becomes[row[at:at + 3]] for at in range(len(row) - 2)])

    def mirrored(self):
        """Returns the Rule that has left and right exchanged."""
        table = self._table
        return Rule(table[0] + table[2] + table[1] + table[3], self._rests)

    def with_bit(self, place):
        """Returns the Rule whose table has the character at a place, 0 to 3, turned about."""
        table = self._table
        turned = "1" if table[place] == "0" else "0"
        return Rule(table[:place] + turned + table[place + 1:], self._rests)

    @staticmethod
    def all_of(rests):
        """Returns the list of the sixteen Rules with so many rests, by ascending tables."""
        pairs = ["00", "01", "10", "11"]
        return [Rule(first + second, rests) for first in pairs for second in pairs]

    def stirs(self, text):
        """Returns whether a beat changes a stand."""
        return self.ring_after(text) != text

    def is_still(self, text):
        """Returns whether all seats of a stand sit, and do so for ever."""
        return self._table[0] == "0" and not is_alive(text)
