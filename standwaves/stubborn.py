"""Stubborn seats: they never stand up, whoever stands beside them."""

from standwaves.errors import NoSeats
from standwaves.kinds import are_different
from standwaves.runs import fate_by
from standwaves.spread import changed_seat


def are_stubborn(text, thing):
    """Returns whether any value is a list or a tuple of different seats of a stand, all of which sit."""
    return are_different(thing, 0, len(text)) and all([text[seat] == "0" for seat in thing])


def _refuse_others(text, seats):
    """Raises NoSeats for what are no stubborn seats of a stand."""
    if not are_stubborn(text, seats):
        raise NoSeats(seats)


def _held_beat(rule, text, seats):
    """Returns a stand with stubborn seats a beat later."""
    text = rule.ring_after(text)
    for seat in seats:
        text = changed_seat(text, seat, "0")
    return text


def held_after(rule, text, seats, many):
    """Returns a stand with stubborn seats after many beats; or NoSeats."""
    _refuse_others(text, seats)
    for _ in range(many):
        text = _held_beat(rule, text, seats)
    return text


def held_fate(rule, text, seats):
    """Returns the least tuple (early, period) such that a stand with stubborn seats comes again; or NoSeats."""
    _refuse_others(text, seats)
    return fate_by(lambda stand: _held_beat(rule, stand, seats), text)


def held_quiet(rule, text, seats):
    """Returns the least number of beats after which all sit and nothing changes, None if none; or NoSeats."""
    # Who stands or rests has another sign a beat later, so where nothing
    # changes any more all sit.
    early, period = held_fate(rule, text, seats)
    return early if period == 1 else None


def cut_rows(text, seats):
    """Returns the tuples (first, row) of the rows between stubborn seats, ascending by first; or NoSeats."""
    _refuse_others(text, seats)
    size = len(text)
    ends = sorted(seats)
    rows = []
    for seat, end in zip(ends, ends[1:] + ends[:1]):
        # One stubborn seat alone is the end of its own row.
        many = (end - seat - 1) % size
        if many > 0:
            rows.append(((seat + 1) % size, (text + text)[seat + 1:seat + 1 + many]))
    return sorted(rows)
