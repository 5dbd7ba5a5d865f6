"""Elders: from which stands a stand can have come."""

from standwaves.laters import later_numbers, numbers_after
from standwaves.rounds import Rounds
from standwaves.stands import all_stands


def _elder_rounds(rule, text):
    """Returns the Rounds whose stands are the elders of a stand."""
    signs = rule.signs
    layers = {sign: {pair: [pair[1] + last for last in signs if rule(pair[0], pair[1], last) == sign]
                     for pair in all_stands(signs, 2)} for sign in signs}
    # A walk begins at the pair of the seats 0 and 1, so its first step tells
    # what seat 1 becomes.
    return Rounds([layers[sign] for sign in text[1:] + text[0]])


def many_elders(rule, text):
    """Returns how many stands are this one a beat later."""
    return _elder_rounds(rule, text).many()


def least_elder(rule, text):
    """Returns the least stand that is this one a beat later, None if there is none."""
    rounds = _elder_rounds(rule, text)
    return rounds.nth(0) if rounds.many() > 0 else None


def elders_of(rule, text):
    """Returns the ascending list of the stands that are this one a beat later."""
    rounds = _elder_rounds(rule, text)
    return list(rounds.texts())


def elders_before(rule, text, many):
    """Returns how many stands are this one after many beats."""
    if many == 0:
        return 1
    return numbers_after(rule, len(text), many).count(int(text, len(rule.signs)))


def orphans_of(rule, size):
    """Returns the ascending list of the stands of size seats that have no elders."""
    come = set(later_numbers(rule, size))
    return [text for number, text in enumerate(all_stands(rule.signs, size)) if number not in come]


def _next_pairs(rule, pairs, sign):
    """Returns the ascending list of the pairs at the ends of rows that become of a sign more.

    The pairs that are passed are at the ends of the rows that become of the signs ahead of it.
    """
    return sorted({pair[1] + last for pair in pairs for last in rule.signs
                   if rule(pair[0], pair[1], last) == sign})


def is_orphan_row(rule, row):
    """Returns whether a row becomes of no row of two characters more."""
    pairs = all_stands(rule.signs, 2)
    for sign in row:
        pairs = _next_pairs(rule, pairs, sign)
    return len(pairs) == 0


def orphan_row(rule):
    """Returns the shortest, of these the least, row that becomes of no row, None if there is none."""
    # Of rows that leave the same pairs only the first is gone on with: what
    # leaves none behind another one does so behind it.
    seen = set()
    rows = [("", all_stands(rule.signs, 2))]
    while rows:
        longer = []
        # A copy is walked, since both names come to stand for one list below.
        for row, pairs in list(rows):
            for sign in rule.signs:
                left = _next_pairs(rule, pairs, sign)
                if len(left) == 0:
                    return row + sign
                if tuple(left) not in seen:
                    seen.add(tuple(left))
                    longer.append((row + sign, left))
        rows = longer
    return None
