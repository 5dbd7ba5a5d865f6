"""How far a seat that is changed changes others, and whether this heals."""

from standwaves.runs import after, fate_of, middles_after
from standwaves.stands import all_stands


def _first_pair(signs, middles, at):
    """Returns the least tuple of two rows that differ in one place alone and whose middles differ."""
    for row in middles:
        for sign in signs:
            # If other were the lesser one, the pair would have been found from there.
            other = changed_seat(row, at, sign)
            if middles[other] != middles[row]:
                return (row, other)
    return None


def matters_after(rule, many):
    """Returns the ascending list of the offsets that matter after many beats."""
    middles = middles_after(rule, many)
    return [d for d in range(-many, many + 1) if _first_pair(rule.signs, middles, many + d) is not None]


def apart_pair(rule, many, d):
    """Returns the least tuple of two rows that show that the offset d matters, None if it does not."""
    if abs(d) > many:
        return None
    return _first_pair(rule.signs, middles_after(rule, many), many + d)


def changed_seat(text, seat, sign):
    """Returns the stand in which a seat has this sign."""
    return text[:seat] + sign + text[seat + 1:]


def _unlike(one, other):
    """Returns the ascending list of the seats in which two stands differ."""
    return [seat for seat in range(len(one)) if one[seat] != other[seat]]


def unlike_seats(rule, one, other, many):
    """Returns the ascending list of the seats in which two stands differ after many beats."""
    return _unlike(after(rule, one, many), after(rule, other, many))


def spread_of(rule, text, seat, sign, many):
    """Returns how many seats differ, at first and after each beat, if a seat has a sign at first."""
    other = changed_seat(text, seat, sign)
    numbers = [len(_unlike(text, other))]
    for _ in range(many):
        text = rule.ring_after(text)
        other = rule.ring_after(other)
        numbers.append(len(_unlike(text, other)))
    return numbers


def healed_after(rule, text, seat, sign):
    """Returns the least number of beats after which a changed stand is as the other, None if it never is."""
    other = changed_seat(text, seat, sign)
    # When both have come to stands that come again, two that are not the
    # same never will be: each of these comes from one of them alone.
    late = max(fate_of(rule, text)[0], fate_of(rule, other)[0])
    for beats in range(late + 1):
        if text == other:
            return beats
        text = rule.ring_after(text)
        other = rule.ring_after(other)
    return None


def all_heal(rule, size):
    """Returns whether each change of a seat of a stand of size seats heals."""
    return scar_of(rule, size) is None


def scar_of(rule, size):
    """Returns the least tuple (text, seat, sign) of a change that never heals, None if all do."""
    for text in all_stands(rule.signs, size):
        for seat in range(size):
            for sign in rule.signs:
                if healed_after(rule, text, seat, sign) is None:
                    return (text, seat, sign)
    return None
