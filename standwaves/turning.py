"""Turning numbers: how often the signs of a stand go round along the ring."""

from math import comb

from standwaves.errors import Jump, NoPlace
from standwaves.kinds import is_count, is_integer
from standwaves.rounds import found_in
from standwaves.stands import all_stands


def _step(signs, own, right):
    """Returns what the right one of two neighbours is more than its left one, counted round."""
    more = (signs.index(right) - signs.index(own)) % len(signs)
    return -1 if more == len(signs) - 1 else more


def steps_of(rule, text):
    """Returns the list of the steps of a stand, seat by seat."""
    return [_step(rule.signs, own, right) for own, right in zip(text, text[1:] + text[0])]


def is_even(rule, text):
    """Returns whether no step of a stand is 2."""
    return 2 not in steps_of(rule, text)


def turning_number(rule, text):
    """Returns the turning number of an even stand; or Jump."""
    steps = steps_of(rule, text)
    if 2 in steps:
        raise Jump(steps.index(2))
    return sum(steps) // len(rule.signs)


def most_turning(rule, size):
    """Returns the greatest turning number of all even stands of size seats."""
    return size // len(rule.signs)


def keeps_turning(rule):
    """Returns whether a beat leaves each even stand even and with the same turning number."""
    return rule.table[1:3] == "11" and (rule.rests == 1 or rule.table[3] == "1")


def _is_changed(rule, text):
    """Returns whether a beat makes an even stand one that is not even, or has another number."""
    later = rule.ring_after(text)
    return not is_even(rule, later) or turning_number(rule, later) != turning_number(rule, text)


def changing_stand(rule):
    """Returns the first even stand that a beat makes another in its turning, None if there is none."""
    if keeps_turning(rule):
        return None
    # Three seats are enough, so the last size always has one.
    stands = [text for size in (1, 2, 3) for text in all_stands(rule.signs, size)]
    return [text for text in stands if is_even(rule, text) and _is_changed(rule, text)][0]


def are_heights(rule, text, thing):
    """Returns whether any value is a list of heights of a stand."""
    if not isinstance(thing, list) or len(thing) != len(text):
        return False
    if not all([is_integer(height) for height in thing]):
        return False
    if not all([rule.signs[height % len(rule.signs)] == sign for height, sign in zip(thing, text)]):
        return False
    return all([abs(height - other) <= 1 for height, other in zip(thing, thing[1:] + thing[:1])])


def heights_of(rule, text):
    """Returns the heights of a stand that begin with its first sign, None if there are none."""
    steps = steps_of(rule, text)
    if 2 in steps or sum(steps) != 0:
        return None
    heights = [rule.signs.index(text[0])]
    for step in steps[:-1]:
        heights.append(heights[-1] + step)
    return heights


def _ways_up(many, total):
    """Returns in how many ways so many steps of -1, 0 and 1 add up to a total."""
    return sum([comb(many, ups) * comb(many - ups, ups - total) for ups in range(max(0, total), many + 1)])


def many_with(rule, size, number):
    """Returns how many even stands of size seats have a turning number."""
    # A first sign and steps that add up to the number of signs as many times
    # are one such stand.
    return len(rule.signs) * _ways_up(size, len(rule.signs) * number)


def _ways_on(signs, own, many, total):
    """Returns the list, for each sign that may come next, in how many ways many steps go on from it.

    The total is what they and the step to it add up to.
    """
    steps = [_step(signs, own, right) for right in signs]
    return [0 if step == 2 else _ways_up(many, total - step) for step in steps]


def nth_with(rule, size, number, place):
    """Returns the even stand of a turning number that has this place in ascending order; or NoPlace."""
    if not is_count(place) or place >= many_with(rule, size, number):
        raise NoPlace(place)
    signs = rule.signs
    total = len(signs) * number
    at, left = found_in([_ways_up(size, total)] * len(signs), place)
    text = signs[at]
    for many in range(size - 1, 0, -1):
        at, left = found_in(_ways_on(signs, text[-1], many, total), left)
        total = total - _step(signs, text[-1], signs[at])
        text += signs[at]
    return text


def place_with(rule, text):
    """Returns the number of an even stand among those of its size and turning number."""
    signs = rule.signs
    steps = steps_of(rule, text)
    total = sum(steps)
    place = signs.index(text[0]) * _ways_up(len(text), total)
    for seat, step in enumerate(steps[:-1]):
        ways = _ways_on(signs, text[seat], len(text) - seat - 1, total)
        place += sum(ways[:signs.index(text[seat + 1])])
        total = total - step
    return place
