"""At which beats a seat stands, by the Rule("0111")."""

from standwaves.calendars import Calendar
from standwaves.ends import end_of, late_stand, wave_rule
from standwaves.errors import Turns


def stands_at(text, seat, beat):
    """Returns whether a seat stands at a beat."""
    return late_stand(text, beat)[seat] == "1"


def all_standing(text, beat):
    """Returns the ascending list of the seats that stand at a beat."""
    return [seat for seat, sign in enumerate(late_stand(text, beat)) if sign == "1"]


def comes_from(text, seat, beat):
    """Returns the list of the sides on which a neighbour stood a beat ahead of a seat that stands."""
    if beat < 1 or not stands_at(text, seat, beat):
        return []
    ahead = late_stand(text, beat - 1)
    sides = [("left", ahead[seat - 1]), ("right", ahead[(seat + 1) % len(text)])]
    return [side for side, sign in sides if sign == "1"]


def _first_beats(text, seat, many):
    """Returns the ascending list of the beats below many at which a seat stands, each looked at."""
    rule = wave_rule()
    beats = []
    for beat in range(many):
        if text[seat] == "1":
            beats.append(beat)
        text = rule.ring_after(text)
    return beats


def standing_calendar(text, seat):
    """Returns the Calendar of the beats from 1 on at which a seat stands."""
    # From start on each beat turns the stand by one place, or nobody stands
    # any more: so it goes by rests, with the number of seats as a period.
    start = end_of(text)[1] + 1
    size = len(text)
    beats = _first_beats(text, seat, start + size)
    early = [beat for beat in beats if 0 < beat < start]
    return Calendar(start, early, size, [beat % size for beat in beats if beat >= start])


def beats_of(text, seat, many):
    """Returns the ascending list of the first beats, at most many, at which a seat stands."""
    calendar = standing_calendar(text, seat)
    first = [0] if text[seat] == "1" else []
    later = [calendar.nth(place) for place in range(many)]
    return (first + [beat for beat in later if beat is not None])[:many]


def next_standing(text, seat, beat):
    """Returns the least beat not below this one at which a seat stands, None if there is none."""
    if beat == 0 and text[seat] == "1":
        return 0
    return standing_calendar(text, seat).least_from(max(1, beat))


def how_often(text, seat, beat):
    """Returns at how many beats below this one a seat stands."""
    first = 1 if beat > 0 and text[seat] == "1" else 0
    return first + standing_calendar(text, seat).many_below(max(1, beat))


def last_beat(text, seat):
    """Returns the last beat at which a seat stands, None if it never does; or Turns."""
    number, beats = end_of(text)
    if number != 0:
        raise Turns(number)
    standing = _first_beats(text, seat, beats)
    return standing[-1] if standing else None
