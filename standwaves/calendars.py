"""Calendars: sets of integers from 1 on that go by rests from some number on."""

from math import gcd, lcm

from standwaves.errors import Wrong
from standwaves.kinds import are_different, is_number


def _least_period(period, rests):
    """Returns the least period by which the same numbers have a rest."""
    # The period is some times a lesser one only if the rests are as many
    # times those of the lesser one.
    held = {rest: True for rest in rests}
    many = gcd(period, len(rests))
    for times in range(many, 1, -1):
        lesser = period // times
        if many % times == 0 and all([(rest + lesser) % period in held for rest in rests]):
            return lesser
    return period


def _last_missing(start, early, period, rest):
    """Returns the last number below start that has a rest and is none of early, 0 or less if there is none."""
    number = start - 1 - (start - 1 - rest) % period
    while number in early:
        number = number - period
    return number


def _least_start(start, early, period, rests):
    """Returns the least number from which on the sizes go by the rests; early is a dict, rests too."""
    missing = [_last_missing(start, early, period, rest) for rest in rests]
    added = [number for number in early if number % period not in rests]
    return 1 + max([0] + missing + added)


def _chosen(one, other, wanted):
    """Returns the Calendar of the numbers of which it is wanted whether the one and the other have them."""
    start = max(one.start, other.start)
    period = lcm(one.period, other.period)
    early = [number for number in range(1, start) if (number in one, number in other) in wanted]
    late = [number for number in range(start, start + period) if (number in one, number in other) in wanted]
    return Calendar(start, early, period, [number % period for number in late])


def _sums_below(steps, most):
    """Returns the ascending list of the sums of one or more steps that are below most."""
    sums = {0: True}
    for number in range(1, most):
        if any([number - step in sums for step in steps]):
            sums[number] = True
    return list(sums)[1:]


class Calendar:
    """Some early sizes, and from start on all numbers that leave one of the rests by the period."""

    def __init__(self, start, early, period, rests):
        if not is_number(start):
            raise Wrong(0)
        if not are_different(early, 1, start):
            raise Wrong(1)
        if not is_number(period):
            raise Wrong(2)
        if not are_different(rests, 0, period):
            raise Wrong(3)
        self._period = _least_period(period, rests)
        self._rests = {rest: True for rest in sorted({rest % self._period for rest in rests})}
        known = {number: True for number in early}
        self._start = _least_start(start, known, self._period, self._rests)
        self._early = {number: True for number in sorted(early) if number < self._start}

    @property
    def start(self):
        """The least number from which on the sizes go by rests."""
        return self._start

    @property
    def early(self):
        """The ascending list of the sizes below start."""
        return list(self._early)

    @property
    def period(self):
        """The least period of the rests."""
        return self._period

    @property
    def rests(self):
        """The ascending list of the rests."""
        return list(self._rests)

    def __eq__(self, other):
        return (isinstance(other, Calendar) and self._start == other._start and self._early == other._early
                and self._period == other._period and self._rests == other._rests)

    def __contains__(self, size):
        if not is_number(size):
            return False
        if size < self._start:
            return size in self._early
        return size % self._period in self._rests

    def __invert__(self):
        return _chosen(self, self, ((False, False),))

    def __or__(self, other):
        return _chosen(self, other, ((True, True), (True, False), (False, True)))

    def __and__(self, other):
        return _chosen(self, other, ((True, True),))

    def __xor__(self, other):
        return _chosen(self, other, ((True, False), (False, True)))

    def within(self, other):
        """Returns whether all sizes of this Calendar are sizes of the other one."""
        return self & other == self

    def _firsts(self, number):
        """Returns the ascending list of the next numbers, from number on, that leave the rests, one for each."""
        return sorted([number + (rest - number) % self._period for rest in self._rests])

    def least_from(self, number):
        """Returns the least size that is not below number, None if there is none."""
        for size in self._early:
            if size >= number:
                return size
        late = self._firsts(max(number, self._start))
        return late[0] if late else None

    def gap_from(self, number):
        """Returns the least integer not below number that is no size, None if there is none."""
        return (~self).least_from(number)

    def many_below(self, number):
        """Returns how many sizes are below number."""
        early = [size for size in self._early if size < number]
        late = [(number - 1 - first) // self._period + 1 for first in self._firsts(self._start) if first < number]
        return len(early) + sum(late)

    def nth(self, place):
        """Returns the size at a place, from 0 on, in ascending order, None if there are not so many."""
        if place < len(self._early):
            return list(self._early)[place]
        late = self._firsts(self._start)
        if not late:
            return None
        rounds, at = divmod(place - len(self._early), len(late))
        return late[at] + rounds * self._period

    @staticmethod
    def of_steps(steps):
        """Returns the Calendar of all sums of one or more of the steps, each as often as need be."""
        if len(steps) == 0:
            return Calendar(1, [], 1, [])
        period = 0
        for step in steps:
            period = gcd(period, step)
        # From the product of the least and the greatest step on, all that can
        # be a sum is one.
        start = min(steps) * max(steps)
        return Calendar(start, _sums_below(steps, start), period, [0])
