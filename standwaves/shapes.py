"""Shapes: stands that some beats turn by some places."""

from standwaves.runs import after
from standwaves.stands import is_alive, turned_by, turns_between
from standwaves.walks import good_windows, stands_round, steps_by


def is_shape(rule, text, p, q):
    """Returns whether a stand is turned by p, any integer, by q beats."""
    return after(rule, text, q) == turned_by(text, p)


def paces(rule, text, most):
    """Returns the ascending list of the tuples (q, p), q up to most, such that it is a shape (p, q)."""
    found = []
    later = text
    for q in range(1, most + 1):
        later = rule.ring_after(later)
        found.extend([(q, p) for p in turns_between(text, later)])
    return found


def shapes_of(rule, p, q, size):
    """Returns the ascending list of all stands of size seats that are shapes (p, q)."""
    steps = steps_by(good_windows(rule, p, q))
    return list(stands_round(steps, size))


def least_shape(rule, p, q, size):
    """Returns the least shape (p, q) of size seats that is alive, None if there is none."""
    steps = steps_by(good_windows(rule, p, q))
    for text in stands_round(steps, size):
        if is_alive(text):
            return text
    return None


def is_basic(rule, text, p, q):
    """Returns whether a stand is a shape (p, q), but turned by no fewer beats."""
    return is_shape(rule, text, p, q) and paces(rule, text, q - 1) == []
