"""What stands come to at last by the Rule("0111"): still ones, or such that turn beat by beat.

The heights of a stand with a turning number tell that from half of its seats and two more beats
on each beat only turns it; by then all sit if the number is 0.
"""

from standwaves.crowds import first_crowds, seats_of, stand_of, turned_crowd
from standwaves.errors import Turns
from standwaves.stands import turned_by


def beats_until_turns(text):
    """Returns a number of beats after which each beat only turns a stand."""
    return len(text) // 2 + 2


def number_of(text):
    """Returns the turning number of a stand."""
    ring = text + text[0]
    ups = ring.count("01") + ring.count("12") + ring.count("20")
    downs = ring.count("10") + ring.count("21") + ring.count("02")
    return (ups - downs) // 3


def _places_of(number):
    """Returns by how many places a beat turns a stand of a turning number in the end."""
    if number == 0:
        return 0
    return -1 if number > 0 else 1


def quiet_after(text):
    """Returns the least number of beats after which a stand is still, None if it never is."""
    if number_of(text) != 0:
        return None
    crowds = first_crowds(text, beats_until_turns(text))
    beats = [beat for beat, crowd in enumerate(crowds) if crowd > 0]
    # Those that stand last rest a beat later and sit after two; where nobody
    # ever stands some may still rest.
    return beats[-1] + 2 if beats else int("2" in text)


def moving_from(text):
    """Returns the least number of beats from which on each beat turns a stand by one, None if none does."""
    places = _places_of(number_of(text))
    if places == 0:
        return None
    crowds = first_crowds(text, beats_until_turns(text))
    beats = len(crowds) - 1
    while beats > 0 and crowds[beats] == turned_crowd(crowds[beats - 1], places, len(text)):
        beats -= 1
    # Who rests stood a beat ahead, but for those that rest at first.
    if beats == 0 and late_stand(text, 1) == turned_by(text, places):
        return 0
    return beats + 1


def end_of(text):
    """Returns the tuple of a stand's turning number and after how many beats it is still, or moves."""
    number = number_of(text)
    return (number, quiet_after(text) if number == 0 else moving_from(text))


def late_stand(text, many):
    """Returns a stand after many beats, a number of any length."""
    if many == 0:
        return text
    beats = min(many, beats_until_turns(text))
    crowds = first_crowds(text, beats)
    stand = stand_of(crowds[beats], crowds[beats - 1], len(text))
    return turned_by(stand, _places_of(number_of(text)) * (many - beats))


def same_end(one, other):
    """Returns whether two stands, of unlike sizes too, are one and the same after some number of beats."""
    # From then on a beat only turns them, and alike if their numbers are the
    # same: so what is not one and the same by then never will be.
    beats = beats_until_turns(one)
    return late_stand(one, beats) == late_stand(other, beats)


def last_standing(text):
    """Returns the ascending list of the seats that stand when anybody stands for the last time; or Turns."""
    number = number_of(text)
    if number != 0:
        raise Turns(number)
    crowds = first_crowds(text, beats_until_turns(text))
    standing = [crowd for crowd in crowds if crowd > 0]
    return seats_of(standing[-1], len(text)) if standing else []
