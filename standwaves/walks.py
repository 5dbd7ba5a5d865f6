"""Good windows as steps between rows, the parts of these, and the walks that are shapes."""

from math import gcd

from standwaves.rounds import Rounds
from standwaves.runs import middles_after
from standwaves.stands import all_stands


def windows_by(middles, p, q):
    """Returns the ascending list of the good windows, p from -q to q, by what all middles become after q beats."""
    return [row for row, middle in middles.items() if middle == row[q - p]]


def good_windows(rule, p, q):
    """Returns the ascending list of the good windows of a shape (p, q)."""
    middles = middles_after(rule, q)
    reach = abs(p)
    if reach <= q:
        return windows_by(middles, p, q)
    # A p beyond q asks for a seat outside of what the middle depends on.
    rows = all_stands(rule.signs, 2 * reach + 1)
    return [row for row in rows if middles[row[reach - q:reach + q + 1]] == row[reach - p]]


def _steps_by(windows):
    """Returns the dict from each row to the rows to which windows lead, all ascending as the windows."""
    steps = {}
    for window in windows:
        steps.setdefault(window[:-1], []).append(window[1:])
    # Rows from which no window leads are on no closed walk.
    return {row: [other for other in steps[row] if other in steps] for row in steps}


def _steps_back(steps):
    """Returns the dict from each row to the rows from which steps lead to it."""
    back = {row: [] for row in steps}
    for row in steps:
        for other in steps[row]:
            back[other].append(row)
    return back


def _leaving_order(steps):
    """Returns the rows in the order in which a search in depth leaves them."""
    order = []
    seen = {}
    for first in steps:
        waiting = [(first, False)]
        while waiting:
            row, is_done = waiting.pop()
            if is_done:
                order.append(row)
            elif row not in seen:
                seen[row] = True
                waiting.append((row, True))
                waiting.extend([(other, False) for other in steps[row]])
    return order


def _reached(steps, first, taken):
    """Returns the dict of the rows that are reached from the first one through none that is taken."""
    found = {}
    waiting = [first]
    while waiting:
        row = waiting.pop()
        if row not in taken and row not in found:
            found[row] = True
            waiting.extend(steps[row])
    return found


def parts_by(steps):
    """Returns the list of the parts, each as an ascending list, by their first rows."""
    # Of the rows that are not taken, the one that was left last leads to each
    # that leads to it: so what is reached from it backwards is its own part.
    back = _steps_back(steps)
    taken = {}
    parts = []
    for first in reversed(_leaving_order(steps)):
        if first not in taken:
            found = _reached(back, first, taken)
            taken.update(found)
            if len(found) > 1 or first in steps[first]:
                parts.append(sorted(found))
    return sorted(parts)


def web_by(windows):
    """Returns the tuple (steps, parts) of the web of good windows.

    Steps are the dict, rows ascending, from each row to those to which steps within a part lead.
    """
    steps = _steps_by(windows)
    parts = parts_by(steps)
    part_of = {row: number for number, part in enumerate(parts) for row in part}
    within = {row: [other for other in steps[row] if part_of.get(other) == part_of[row]]
              for row in sorted(part_of)}
    return (within, parts)


def period_of(steps, part):
    """Returns the greatest integer of which the lengths of all closed walks in a part are multiples."""
    # Each step that does not lead just one farther from the first row closes
    # walks whose lengths differ by so much.
    far = {part[0]: 0}
    waiting = [part[0]]
    period = 0
    while waiting:
        row = waiting.pop()
        for other in steps[row]:
            if other not in far:
                far[other] = far[row] + 1
                waiting.append(other)
            period = gcd(period, far[row] + 1 - far[other])
    return period


def shape_rounds(rule, p, q, size):
    """Returns the Rounds whose stands are the shapes (p, q) of size seats."""
    steps = web_by(good_windows(rule, p, q))[0]
    return Rounds([steps] * size)
