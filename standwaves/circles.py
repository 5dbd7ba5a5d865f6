"""Circles: the stands that come again for ever, and the ways to them."""

from standwaves.kinds import is_stand
from standwaves.runs import fate_of, path_of
from standwaves.stands import all_stands, least_turn


def _begun_at_least(circle):
    """Returns a circle begun at its least stand."""
    first = circle.index(min(circle))
    return circle[first:] + circle[:first]


def circle_of(rule, text):
    """Returns the circle to which a stand comes, begun at its least stand."""
    early = fate_of(rule, text)[0]
    return _begun_at_least(path_of(rule, text)[early:])


def way_in(rule, text):
    """Returns the list of the stands from this one on that are ahead of its circle."""
    return path_of(rule, text)[:fate_of(rule, text)[0]]


def is_circle(rule, thing):
    """Returns whether any value is a circle of stands of the rule, begun at any of them."""
    if not isinstance(thing, list) or len(thing) == 0:
        return False
    if not all([is_stand(text, rule.signs) for text in thing]):
        return False
    if len(set(thing)) < len(thing):
        return False
    later = thing[1:] + thing[:1]
    return all([rule.ring_after(text) == other for text, other in zip(thing, later)])


def circles_of(rule, size):
    """Returns the list of all circles of stands of size seats, each begun at its least, by these."""
    circles = []
    for text in all_stands(rule.signs, size):
        circle = circle_of(rule, text)
        if circle[0] == text:
            circles.append(circle)
    return circles


def _how_many(things):
    """Returns the dict, its keys ascending, from each of these things to how often it stands there."""
    numbers = {}
    for thing in sorted(things):
        numbers[thing] = numbers.get(thing, 0) + 1
    return numbers


def periods_of(rule, size):
    """Returns the dict from the lengths of the circles to how many there are."""
    return _how_many([len(circle) for circle in circles_of(rule, size)])


def many_that_come(rule, size):
    """Returns the dict from the least stands of the circles to how many stands come to them."""
    return _how_many([circle_of(rule, text)[0] for text in all_stands(rule.signs, size)])


def longest_way(rule, size):
    """Returns the tuple of the greatest number of stands ahead of a circle, and the least such stand."""
    best = (-1, "")
    for text in all_stands(rule.signs, size):
        early = fate_of(rule, text)[0]
        if early > best[0]:
            best = (early, text)
    return best


def stands_with_fate(rule, size, early, period):
    """Returns the ascending list of the stands of size seats that have this fate."""
    return [text for text in all_stands(rule.signs, size) if fate_of(rule, text) == (early, period)]


def circles_apart(rule, size):
    """Returns the list of the circles that none ahead of them becomes by turning all its stands alike."""
    # A beat turns with the stands, so two circles are one by turning just if a
    # stand of the one is one of the other, turned.
    apart = {}
    for circle in circles_of(rule, size):
        apart.setdefault(min([least_turn(text) for text in circle]), circle)
    return list(apart.values())
