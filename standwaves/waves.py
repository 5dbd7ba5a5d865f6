"""At which beats a seat stands, by the Rule("0111")."""

from standwaves.calendars import Calendar
from standwaves.crowds import first_crowds, has_seat, seats_of
from standwaves.ends import beats_until_turns, late_stand, number_of
from standwaves.errors import Turns


def stands_at(text, seat, beat):
    """Returns whether a seat stands at a beat."""
    return late_stand(text, beat)[seat] == "1"


def all_standing(text, beat):
    """Returns the ascending list of the seats that stand at a beat."""
    return [seat for seat, sign in enumerate(late_stand(text, beat)) if sign == "1"]


def comes_from(text, seat, beat):
    """Returns the list of the sides on which a neighbour stood a beat ahead of a seat that stands."""
    if beat < 1 or not stands_at(text, seat, beat):
        return []
    ahead = late_stand(text, beat - 1)
    sides = [("left", ahead[seat - 1]), ("right", ahead[(seat + 1) % len(text)])]
    return [side for side, sign in sides if sign == "1"]


def _beats_told(text, seat):
    """Returns the tuple (early, late) of the ascending beats at which a seat stands.

    Late ones are those from `beats_until_turns` on, of as many beats as there are seats: this
    round comes again and again. Early ones are those ahead of it.
    """
    size = len(text)
    start = beats_until_turns(text)
    crowds = first_crowds(text, start)
    early = [beat for beat, crowd in enumerate(crowds[:-1]) if has_seat(crowd, seat, size)]
    # A stand whose turning number is above 0 is turned to the left, so what
    # the seats to the right have comes next.
    side = 1 if number_of(text) > 0 else -1
    late = [start + (other - seat) * side % size for other in seats_of(crowds[-1], size)]
    return (early, sorted(late))


def standing_calendar(text, seat):
    """Returns the Calendar of the beats from 1 on at which a seat stands."""
    early, late = _beats_told(text, seat)
    size = len(text)
    return Calendar(beats_until_turns(text), [beat for beat in early if beat > 0], size, [beat % size for beat in late])


def beats_of(text, seat, many):
    """Returns the ascending list of the first beats, at most many, at which a seat stands."""
    early, late = _beats_told(text, seat)
    rounds = many // len(late) + 1 if late else 0
    return (early + [beat + number * len(text) for number in range(rounds) for beat in late])[:many]


def next_standing(text, seat, beat):
    """Returns the least beat not below this one at which a seat stands, None if there is none."""
    early, late = _beats_told(text, seat)
    coming = [other for other in early if other >= beat]
    # A late beat comes again each time that as many beats are over as there are seats.
    again = [other if other >= beat else beat + (other - beat) % len(text) for other in late]
    return min(coming + again, default=None)


def how_often(text, seat, beat):
    """Returns at how many beats below this one a seat stands."""
    early, late = _beats_told(text, seat)
    rounds = [(beat - 1 - other) // len(text) + 1 for other in late if other < beat]
    return len([other for other in early if other < beat]) + sum(rounds)


def last_beat(text, seat):
    """Returns the last beat at which a seat stands, None if it never does; or Turns."""
    number = number_of(text)
    if number != 0:
        raise Turns(number)
    early = _beats_told(text, seat)[0]
    return early[-1] if early else None
