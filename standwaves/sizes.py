"""At which sizes there are shapes that are alive."""

from standwaves.calendars import Calendar
from standwaves.errors import TooMany
from standwaves.runs import middles_after
from standwaves.shapes import least_shape
from standwaves.stands import is_alive
from standwaves.walks import good_windows, period_of, web_by, windows_by

_MOST_NODES = 30


def _either(masks):
    """Returns the integer that has the bits of all of these."""
    total = 0
    for mask in masks:
        total |= mask
    return total


def _sizes_in(steps, part):
    """Returns the Calendar of the lengths of the closed walks in a part, which is alive."""
    places = {row: place for place, row in enumerate(part)}
    ahead = [[places[other] for other in steps[row]] for row in part]
    alive = [place for place, row in enumerate(part) if is_alive(row)]
    period = period_of(steps, part)
    # For each length a list of integers, one for each row, whose bits are the
    # places where walks from there can end. When they come again after the
    # period they do so for ever, and then all its multiples are lengths.
    layers = [[1 << place for place in range(len(part))]]
    while len(layers) <= period or layers[-1] != layers[-1 - period]:
        last = layers[-1]
        layers.append([_either([last[place] for place in row]) for row in ahead])
    start = max(1, len(layers) - 1 - period)
    lengths = [length for length, ends in enumerate(layers) if any([ends[place] >> place & 1 for place in alive])]
    return Calendar(start, [length for length in lengths if 0 < length < start], period, [0])


def _all_of(calendars):
    """Returns the Calendar of the numbers that one of these has at least."""
    total = Calendar(1, [], 1, [])
    for calendar in calendars:
        if calendar != total:
            total = total | calendar
    return total


def _sizes_by(windows):
    """Returns the Calendar of the sizes at which there is a shape that is alive, by its good windows; or TooMany."""
    steps, parts = web_by(windows)
    if len(steps) > _MOST_NODES:
        raise TooMany(_MOST_NODES)
    return _all_of([_sizes_in(steps, part) for part in parts if any([is_alive(row) for row in part])])


def sizes_of(rule, p, q):
    """Returns the Calendar of the sizes at which there is a shape (p, q) that is alive; or TooMany."""
    return _sizes_by(good_windows(rule, p, q))


def _places_up_to(r):
    """Returns the list of the places in the order 0, 1, -1, 2, -2, .. up to r."""
    return [0] + [p for far in range(1, r + 1) for p in (far, -far)]


def _sizes_by_paces(rule, q):
    """Returns the list of the tuples (r, p, sizes of the shapes (p, r)), r up to q, in their order; or TooMany."""
    told = []
    for r in range(1, q + 1):
        middles = middles_after(rule, r)
        told.extend([(r, p, _sizes_by(windows_by(middles, p, r))) for p in _places_up_to(r)])
    return told


def sizes_within(rule, q):
    """Returns the Calendar of the sizes at which there is an alive shape (p, r), r up to q; or TooMany."""
    return _all_of([sizes for _, _, sizes in _sizes_by_paces(rule, q)])


def gaps_of(rule, p, q):
    """Returns the ascending list of the sizes below the start that are none, though later ones are; or TooMany."""
    sizes = sizes_of(rule, p, q)
    return [size for size in range(1, sizes.start)
            if size not in sizes and size % sizes.period in sizes.rests]


def first_shape(rule, size, q):
    """Returns the first tuple (r, p, text) of a shape (p, r) that is alive, r up to q, None if there is none."""
    for r in range(1, q + 1):
        for p in _places_up_to(r):
            text = least_shape(rule, p, r, size)
            if text is not None:
                return (r, p, text)
    return None


def sizes_alike(one, other, q):
    """Returns the first tuple (r, p, size) at which two Rules differ, r up to q, None if none; or TooMany."""
    # All sizes are told before any are compared, since a web that is too great
    # is refused wherever the Rules differ.
    for (r, p, sizes), (_, _, others) in zip(_sizes_by_paces(one, q), _sizes_by_paces(other, q)):
        size = (sizes ^ others).least_from(1)
        if size is not None:
            return (r, p, size)
    return None
