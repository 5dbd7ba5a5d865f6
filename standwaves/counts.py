"""How many shapes there are, each with its number."""

from math import gcd

from standwaves.errors import NoNumber
from standwaves.kinds import is_count
from standwaves.shapes import is_shape
from standwaves.walks import shape_rounds


def many_shapes(rule, p, q, size):
    """Returns how many stands of size seats are shapes (p, q)."""
    return shape_rounds(rule, p, q, size).many()


def many_alive(rule, p, q, size):
    """Returns how many stands of size seats are shapes (p, q) that are alive."""
    return many_shapes(rule, p, q, size) - int(is_shape(rule, "0" * size, p, q))


def nth_shape(rule, p, q, size, number):
    """Returns the shape (p, q) of size seats that has this number in ascending order; or NoNumber."""
    rounds = shape_rounds(rule, p, q, size)
    if not is_count(number) or number >= rounds.many():
        raise NoNumber(number)
    return rounds.nth(number)


def shape_number(rule, p, q, text):
    """Returns the number of a stand among the shapes (p, q) of its size, None if it is none."""
    if not is_shape(rule, text, p, q):
        return None
    return shape_rounds(rule, p, q, len(text)).number_of(text)


def many_turns(rule, p, q, size):
    """Returns how many shapes (p, q) there are, those that become one another by turning counted as one."""
    # Turned by so many places just those are the same that repeat a shape of
    # as many seats as the greatest divisor tells; over all turns each ring
    # counts size times.
    numbers = counts_to(rule, p, q, size)
    return sum([numbers[gcd(places, size) - 1] for places in range(size)]) // size


def counts_to(rule, p, q, size):
    """Returns the list of how many shapes (p, q) of 1, 2, .. size seats there are."""
    rounds = shape_rounds(rule, p, q, size)
    return [rounds.many_of(seats) for seats in range(1, size + 1)]
