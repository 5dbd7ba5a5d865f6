"""What stands come to at last by the Rule("0111"): still ones, or such that turn beat by beat."""

from standwaves.errors import Turns
from standwaves.rules import Rule
from standwaves.runs import after
from standwaves.stands import is_alive, turned_by
from standwaves.turning import turning_number


def wave_rule():
    """Returns the Rule of this file."""
    return Rule("0111")


def _number_of(text):
    """Returns the turning number of a stand."""
    return turning_number(wave_rule(), text)


def quiet_after(text):
    """Returns the least number of beats after which a stand is still, None if it never is."""
    if _number_of(text) != 0:
        return None
    # Just the stands of this turning number are still in the end, so the
    # beats do not go on for ever.
    rule = wave_rule()
    beats = 0
    while is_alive(text):
        text = rule.ring_after(text)
        beats += 1
    return beats


def _places_of(number):
    """Returns by how many places a beat turns a stand of a turning number in the end."""
    if number == 0:
        return 0
    return -1 if number > 0 else 1


def moving_from(text):
    """Returns the least number of beats from which on each beat turns a stand by one, None if none does."""
    places = _places_of(_number_of(text))
    if places == 0:
        return None
    # What a beat once turns, it turns for ever.
    rule = wave_rule()
    beats = 0
    while rule.ring_after(text) != turned_by(text, places):
        text = rule.ring_after(text)
        beats += 1
    return beats


def end_of(text):
    """Returns the tuple of a stand's turning number and after how many beats it is still, or moves."""
    number = _number_of(text)
    return (number, quiet_after(text) if number == 0 else moving_from(text))


def late_stand(text, many):
    """Returns a stand after many beats, a number of any length."""
    number, beats = end_of(text)
    early = after(wave_rule(), text, min(many, beats))
    return turned_by(early, _places_of(number) * max(0, many - beats))


def same_end(one, other):
    """Returns whether two stands, of unlike sizes too, are one and the same after some number of beats."""
    beats = max(end_of(one)[1], end_of(other)[1])
    # From then on a beat only turns them, and alike if their numbers are the
    # same: so what is not one and the same by then never will be.
    return late_stand(one, beats) == late_stand(other, beats)


def last_standing(text):
    """Returns the ascending list of the seats that stand when anybody stands for the last time; or Turns."""
    number = _number_of(text)
    if number != 0:
        raise Turns(number)
    rule = wave_rule()
    seats = []
    while is_alive(text):
        if "1" in text:
            seats = [seat for seat, sign in enumerate(text) if sign == "1"]
        text = rule.ring_after(text)
    return seats
