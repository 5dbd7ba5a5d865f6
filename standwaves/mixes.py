"""Mixes: Rules that are taken by turns, beat by beat."""

from standwaves.rules import Rule
from standwaves.rulesets import first_apart
from standwaves.runs import path_by
from standwaves.stands import turned_by


def are_mixed(thing):
    """Returns whether any value is a list or a tuple of one Rule or more, all with as many rests."""
    if not isinstance(thing, (list, tuple)) or len(thing) == 0:
        return False
    if not all([isinstance(rule, Rule) for rule in thing]):
        return False
    return all([rule.rests == thing[0].rests for rule in thing])


def mixed_after(rules, text, many):
    """Returns a stand after many beats by a mix."""
    for beat in range(many):
        text = rules[beat % len(rules)].ring_after(text)
    return text


def _mixed_beat(rules, stage):
    """Returns the tuple of the stand a beat later and the place of the Rule that is taken next."""
    text, place = stage
    return (rules[place].ring_after(text), (place + 1) % len(rules))


def _least_round(things):
    """Returns the shortest list that, written once or more, is the list of these things."""
    many = 1
    while len(things) % many != 0 or things != things[:many] * (len(things) // many):
        many += 1
    return things[:many]


def mixed_fate(rules, text):
    """Returns the least tuple (early, period), by period first, such that the stands come again for ever."""
    path = path_by(lambda stage: _mixed_beat(rules, stage), (text, 0))
    early = path.index(_mixed_beat(rules, path[-1]))
    # From when on stands come again, so do stand and Rule together, if only
    # after more beats: early is the same for both.
    return (early, len(_least_round([stand for stand, _ in path[early:]])))


def mixed_quiet(rules, text):
    """Returns the least number of beats after which all sit for ever, None if there is none."""
    # Who stands or rests has another sign a beat later, so what stays as it
    # is only sits.
    early, period = mixed_fate(rules, text)
    return early if period == 1 else None


def is_mixed_shape(rules, text, p, rounds):
    """Returns whether a stand is turned by p when all Rules were taken so many times."""
    return mixed_after(rules, text, rounds * len(rules)) == turned_by(text, p)


def short_mix(rules):
    """Returns the shortest list of Rules that, written once or more, is the list of these."""
    return _least_round(list(rules))


def shifted_mix(rules, many):
    """Returns the list, as long as the Rules, that goes on as they do after many beats."""
    at = many % len(rules)
    return list(rules[at:]) + list(rules[:at])


def mirrored_mix(rules):
    """Returns the list of the Rules mirrored."""
    return [rule.mirrored() for rule in rules]


def _first_rules(rules, many):
    """Returns the list of the Rules by which the first beats go."""
    return [rules[beat % len(rules)] for beat in range(many)]


def parting_stand(one, other, many):
    """Returns the first stand that is not the same after many beats by both mixes, None if all are."""
    if _first_rules(one, many) == _first_rules(other, many):
        return None
    # A seat depends on so many seats that rings of their number tell all.
    return first_apart(one[0].signs, 2 * many + 1,
                       lambda text: mixed_after(one, text, many),
                       lambda stand: mixed_after(other, stand, many))
