"""Circles: the stands that come again for ever, and the ways to them."""

from standwaves.kinds import is_stand
from standwaves.laters import later_numbers
from standwaves.runs import path_of
from standwaves.stands import all_stands, all_turns


def _way_and_circle(rule, text):
    """Returns the tuple of the stands from this one on that are ahead of its circle, and of those in it."""
    path = path_of(rule, text)
    early = path.index(rule.ring_after(path[-1]))
    return (path[:early], path[early:])


def circle_of(rule, text):
    """Returns the circle to which a stand comes, begun at its least stand."""
    circle = _way_and_circle(rule, text)[1]
    first = circle.index(min(circle))
    return circle[first:] + circle[:first]


def way_in(rule, text):
    """Returns the list of the stands from this one on that are ahead of its circle."""
    return _way_and_circle(rule, text)[0]


def is_circle(rule, thing):
    """Returns whether any value is a circle of stands of the rule, begun at any of them."""
    if not isinstance(thing, list) or len(thing) == 0:
        return False
    if not all([is_stand(text, rule.signs) for text in thing]):
        return False
    if len(set(thing)) < len(thing):
        return False
    later = thing[1:] + thing[:1]
    return all([rule.ring_after(text) == other for text, other in zip(thing, later)])


def _ways(later):
    """Returns two lists: for each number the least one of the circle to which it comes, and how many are ahead."""
    on_the_way = len(later)
    leasts = [None] * len(later)
    aheads = [0] * len(later)
    for first in range(len(later)):
        way = []
        number = first
        while leasts[number] is None:
            leasts[number] = on_the_way
            way.append(number)
            number = later[number]
        if leasts[number] == on_the_way:
            # The way came to itself, so its end is a circle that was not known.
            at = way.index(number)
            least = min(way[at:])
            for other in way[at:]:
                leasts[other] = least
            way = way[:at]
        for other in reversed(way):
            leasts[other] = leasts[later[other]]
            aheads[other] = aheads[later[other]] + 1
    return (leasts, aheads)


def _circles_by(later, leasts):
    """Returns the list of the circles of numbers, each begun at its least, by these."""
    circles = []
    for least in [number for number, other in enumerate(leasts) if number == other]:
        circle = [least]
        while later[circle[-1]] != least:
            circle.append(later[circle[-1]])
        circles.append(circle)
    return circles


def _circles(rule, size):
    """Returns the list of the circles of numbers of stands of size seats."""
    later = later_numbers(rule, size)
    return _circles_by(later, _ways(later)[0])


def circles_of(rule, size):
    """Returns the list of all circles of stands of size seats, each begun at its least, by these."""
    stands = all_stands(rule.signs, size)
    return [[stands[number] for number in circle] for circle in _circles(rule, size)]


def _how_many(things):
    """Returns the dict, its keys ascending, from each of these things to how often it stands there."""
    numbers = {}
    for thing in sorted(things):
        numbers[thing] = numbers.get(thing, 0) + 1
    return numbers


def periods_of(rule, size):
    """Returns the dict from the lengths of the circles to how many there are."""
    return _how_many([len(circle) for circle in _circles(rule, size)])


def many_that_come(rule, size):
    """Returns the dict from the least stands of the circles to how many stands come to them."""
    stands = all_stands(rule.signs, size)
    come = _how_many(_ways(later_numbers(rule, size))[0])
    return {stands[least]: come[least] for least in come}


def longest_way(rule, size):
    """Returns the tuple of the greatest number of stands ahead of a circle, and the least such stand."""
    aheads = _ways(later_numbers(rule, size))[1]
    most = max(aheads)
    return (most, all_stands(rule.signs, size)[aheads.index(most)])


def stands_with_fate(rule, size, early, period):
    """Returns the ascending list of the stands of size seats that have this fate."""
    later = later_numbers(rule, size)
    leasts, aheads = _ways(later)
    periods = {circle[0]: len(circle) for circle in _circles_by(later, leasts)}
    return [text for text, least, ahead in zip(all_stands(rule.signs, size), leasts, aheads)
            if ahead == early and periods[least] == period]


def circles_apart(rule, size):
    """Returns the list of the circles that none ahead of them becomes by turning all its stands alike."""
    # A beat turns with the stands, so what a circle becomes by turning are the
    # circles of its first stand, turned.
    later = later_numbers(rule, size)
    leasts = _ways(later)[0]
    stands = all_stands(rule.signs, size)
    seen = set()
    apart = []
    for circle in _circles_by(later, leasts):
        if circle[0] not in seen:
            apart.append([stands[number] for number in circle])
            for turn in all_turns(stands[circle[0]]):
                seen.add(leasts[int(turn, len(rule.signs))])
    return apart
