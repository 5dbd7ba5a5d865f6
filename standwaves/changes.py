"""What tables do it, and what a table that is changed changes."""

from standwaves.kinds import is_row
from standwaves.rules import Rule
from standwaves.runs import after, path_of, still_from
from standwaves.stands import turned_by


def tables_of(text, later, rests, many):
    """Returns the ascending list of the tables by which a stand after many beats is the later one."""
    rules = Rule.all_of(rests)
    if not is_row(text + later, rules[0].signs):
        return []
    return [rule.table for rule in rules if after(rule, text, many) == later]


def tables_with_shape(text, p, q, rests):
    """Returns the ascending list of the tables by which a stand is a shape (p, q)."""
    return tables_of(text, turned_by(text, p), rests, q)


def _lists_of_places():
    """Returns all lists of places of a table, each ascending, the shortest ahead, of these the least."""
    lists = [[place for place in range(4) if number >> place & 1] for number in range(16)]
    return sorted(lists, key=lambda places: (len(places), places))


def _with_bits(rule, places):
    """Returns the Rule whose table has the characters at these places turned about."""
    for place in places:
        rule = rule.with_bit(place)
    return rule


def fewest_bits(rule, text, wish):
    """Returns the first list of places that, turned about, make a stand still in the end, or never, as is wished."""
    lists = _lists_of_places()
    # By the tables "0000" and "1111" each wish comes true, so some list does.
    at = 0
    while (still_from(_with_bits(rule, lists[at]), text) is not None) != wish:
        at += 1
    return lists[at]


def _left_after(path, ahead, other):
    """Returns after how many beats a Rule leaves a path, with what is ahead of each stand, None if it never does."""
    for beats, (text, later) in enumerate(zip(path, ahead)):
        if other.ring_after(text) != later:
            return beats + 1
    return None


def harm_of(rule, text):
    """Returns the dict from the places 0 to 3 to the beats after which the stand is not the same, or None.

    It is compared with what it is by the Rule whose table has this place turned about.
    """
    path = path_of(rule, text)
    ahead = path[1:] + [rule.ring_after(path[-1])]
    return {place: _left_after(path, ahead, rule.with_bit(place)) for place in range(4)}
