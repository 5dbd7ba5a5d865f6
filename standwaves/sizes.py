"""At which sizes there are shapes that are alive."""

from standwaves.calendars import Calendar
from standwaves.errors import TooMany
from standwaves.shapes import least_shape
from standwaves.stands import is_alive
from standwaves.walks import closed_steps, parts_by, period_of

_MOST_NODES = 30


def _either(masks):
    """Returns the integer that has the bits of all of these."""
    total = 0
    for mask in masks:
        total |= mask
    return total


def _lengths_below(steps, part, most):
    """Returns the ascending list of the lengths, below most, of closed walks in a part that are alive."""
    places = {row: place for place, row in enumerate(part)}
    alive = [row for row in part if is_alive(row)]
    # For each row an integer, whose bits are the places of the rows where walks
    # of the length from there can end.
    ends = {row: 1 << places[row] for row in part}
    lengths = []
    for length in range(1, most):
        ends = {row: _either([ends[other] for other in steps[row]]) for row in part}
        if any([ends[row] >> places[row] & 1 for row in alive]):
            lengths.append(length)
    return lengths


def _sizes_in(steps, part):
    """Returns the Calendar of the lengths of the closed walks in a part that are alive."""
    if not any([is_alive(row) for row in part]):
        return Calendar(1, [], 1, [])
    # Beyond the square of the number of rows each of them is on closed walks of
    # all lengths that are multiples of the period.
    start = len(part) * len(part) + 1
    return Calendar(start, _lengths_below(steps, part, start), period_of(steps, part), [0])


def sizes_of(rule, p, q):
    """Returns the Calendar of the sizes at which there is a shape (p, q) that is alive; or TooMany."""
    steps = closed_steps(rule, p, q)
    if len(steps) > _MOST_NODES:
        raise TooMany(_MOST_NODES)
    sizes = Calendar(1, [], 1, [])
    for part in parts_by(steps):
        sizes = sizes | _sizes_in(steps, part)
    return sizes


def _all_paces(q):
    """Returns the list of the tuples (r, p), r from 1 to q, p in the order 0, 1, -1, 2, -2, .. up to r."""
    return [(r, p) for r in range(1, q + 1) for far in range(r + 1) for p in ([far, -far] if far > 0 else [0])]


def sizes_within(rule, q):
    """Returns the Calendar of the sizes at which there is an alive shape (p, r), r up to q; or TooMany."""
    sizes = Calendar(1, [], 1, [])
    for r, p in _all_paces(q):
        sizes = sizes | sizes_of(rule, p, r)
    return sizes


def gaps_of(rule, p, q):
    """Returns the ascending list of the sizes below the start that are none, though later ones are; or TooMany."""
    sizes = sizes_of(rule, p, q)
    return [size for size in range(1, sizes.start)
            if size not in sizes and size % sizes.period in sizes.rests]


def first_shape(rule, size, q):
    """Returns the first tuple (r, p, text) of a shape (p, r) that is alive, r up to q, None if there is none."""
    for r, p in _all_paces(q):
        text = least_shape(rule, p, r, size)
        if text is not None:
            return (r, p, text)
    return None


def sizes_alike(one, other, q):
    """Returns the first tuple (r, p, size) at which two Rules differ, r up to q, None if none; or TooMany."""
    # All sizes are told before any are compared, since a web that is too great
    # is refused wherever the Rules differ.
    told = [(r, p, sizes_of(one, p, r) ^ sizes_of(other, p, r)) for r, p in _all_paces(q)]
    for r, p, unlike in told:
        size = unlike.least_from(1)
        if size is not None:
            return (r, p, size)
    return None
