"""Which Rules are parted by a stand, and which lead all stands of a size to the same."""

from standwaves.circles import circles_of
from standwaves.laters import numbers_after
from standwaves.rules import Rule
from standwaves.runs import after
from standwaves.stands import all_stands


def first_apart(signs, most, one, other):
    """Returns the least of the smallest stands, up to most seats, of which two functions make unlike things."""
    for size in range(1, most + 1):
        for text in all_stands(signs, size):
            if one(text) != other(text):
                return text
    return None


def parted_after(one, other, many):
    """Returns the first stand that is not the same by two Rules after many beats, None if all are."""
    if one == other:
        return None
    signs = min(one.signs, other.signs, key=len)
    # A seat depends on so many seats that rings of their number tell all.
    return first_apart(signs, 2 * many + 1,
                       lambda text: after(one, text, many),
                       lambda stand: after(other, stand, many))


def alike_after(one, other, many):
    """Returns whether all stands are the same by two Rules after many beats."""
    return parted_after(one, other, many) is None


def alike_groups(rests, many, size):
    """Returns the lists of the tables that lead all stands of size seats to the same, by their first ones."""
    groups = {}
    for rule in Rule.all_of(rests):
        told = tuple(numbers_after(rule, size, many))
        groups.setdefault(told, []).append(rule.table)
    return list(groups.values())


def quiet_tables(rests, size):
    """Returns the ascending list of the tables by which each stand of size seats is still in the end."""
    return [rule.table for rule in Rule.all_of(rests) if circles_of(rule, size) == [["0" * size]]]
