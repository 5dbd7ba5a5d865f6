"""Shapes: stands that some beats turn by some places."""

from standwaves.runs import after
from standwaves.stands import is_alive, turned_by, turns_between
from standwaves.walks import shape_rounds


def is_shape(rule, text, p, q):
    """Returns whether a stand is turned by p, any integer, by q beats."""
    return after(rule, text, q) == turned_by(text, p)


def paces(rule, text, most):
    """Returns the ascending list of the tuples (q, p), q up to most, such that it is a shape (p, q)."""
    found = []
    later = text
    for q in range(1, most + 1):
        later = rule.ring_after(later)
        found.extend([(q, p) for p in turns_between(text, later)])
    return found


def shapes_of(rule, p, q, size):
    """Returns the ascending list of all stands of size seats that are shapes (p, q)."""
    rounds = shape_rounds(rule, p, q, size)
    return list(rounds.texts())


def least_shape(rule, p, q, size):
    """Returns the least shape (p, q) of size seats that is alive, None if there is none."""
    rounds = shape_rounds(rule, p, q, size)
    for text in rounds.texts():
        if is_alive(text):
            return text
    return None


def is_basic(rule, text, p, q):
    """Returns whether a stand is a shape (p, q), but turned by no fewer beats."""
    return is_shape(rule, text, p, q) and paces(rule, text, q - 1) == []
