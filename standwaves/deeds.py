"""Deeds: what can be done with a stand, its rule and its stubborn seats.

A stage is the tuple (rule, text, held, beats): the Rule, the stand, the ascending tuple of the
stubborn seats, and how many beats there were.
"""

from standwaves.kinds import is_count, is_integer, is_number, is_stand, is_table
from standwaves.rules import Rule
from standwaves.spread import changed_seat
from standwaves.stands import turned_by
from standwaves.stubborn import held_after

_MOST_BEATS = 50


def _is_told(word, told):
    """Returns whether any value is what stands behind the word of a deed of two parts."""
    if word == "beats":
        return is_number(told) and told <= _MOST_BEATS
    if word == "turn":
        return is_integer(told)
    if word == "table":
        return is_table(told)
    return word in ("hold", "free") and is_count(told)


def is_deed(thing, signs):
    """Returns whether any value is a deed by its form, for stands of these signs and of any size."""
    if not isinstance(thing, tuple) or len(thing) < 2 or not isinstance(thing[0], str):
        return False
    if thing[0] == "seat":
        return len(thing) == 3 and is_count(thing[1]) and is_stand(thing[2], signs) and len(thing[2]) == 1
    return len(thing) == 2 and _is_told(thing[0], thing[1])


def is_deed_of(thing, stage):
    """Returns whether any value is a deed by its form at this stage."""
    rule, text, _, _ = stage
    if not is_deed(thing, rule.signs):
        return False
    return thing[0] not in ("seat", "hold", "free") or thing[1] < len(text)


def is_refused(deed, stage):
    """Returns whether a deed of this stage can't be done, as its seat is."""
    _, text, held, _ = stage
    word, told = deed[0], deed[1]
    if word == "seat":
        return told in held or text[told] == deed[2]
    if word == "hold":
        return told in held or text[told] != "0"
    return word == "free" and told not in held


def stage_after(deed, stage):
    """Returns the stage to which a deed leads that is not refused."""
    rule, text, held, beats = stage
    word, told = deed[0], deed[1]
    if word == "beats":
        return (rule, held_after(rule, text, held, told), held, beats + told)
    if word == "seat":
        return (rule, changed_seat(text, told, deed[2]), held, beats)
    if word == "turn":
        turned = sorted([(seat + told) % len(text) for seat in held])
        return (rule, turned_by(text, told), tuple(turned), beats)
    if word == "table":
        return (Rule(told, rule.rests), text, held, beats)
    if word == "hold":
        return (rule, text, tuple(sorted([*held, told])), beats)
    return (rule, text, tuple([seat for seat in held if seat != told]), beats)
