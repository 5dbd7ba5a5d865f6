"""Stands as rings of signs: turned, mirrored, cut into windows, listed."""

from standwaves.errors import NoStand
from standwaves.kinds import is_row


def is_alive(text):
    """Returns whether some seat of a stand does not sit."""
    return text.count("0") < len(text)


def turned_by(text, places):
    """Returns a stand turned by any integer of places: to the right, if it is above 0."""
    cut = len(text) - places % len(text)
    return text[cut:] + text[:cut]


def mirror_of(text):
    """Returns a stand mirrored."""
    return text[::-1]


def all_turns(text):
    """Returns the ascending list of the different stands that a stand becomes if turned."""
    return sorted({turned_by(text, places) for places in range(len(text))})


def least_turn(text):
    """Returns the least of the stands that a stand becomes if turned."""
    return all_turns(text)[0]


def least_part(text):
    """Returns the shortest string that, written once or more, is the stand."""
    # A ring stands in itself written twice first where its least part ends.
    return text[:(text + text).find(text, 1)]


def turns_between(text, other):
    """Returns the ascending list of the places by which text turned is other."""
    return [places for places in range(len(text)) if turned_by(text, places) == other]


def window_at(text, seat, reach):
    """Returns the row around a seat of a stand, reach seats to both sides, read round the ring."""
    size = len(text)
    return "".join([text[(seat + offset) % size] for offset in range(-reach, reach + 1)])


def from_windows(rows):
    """Returns the stand whose windows, seat by seat, are these rows; or NoStand."""
    if not _are_windows_by_form(rows):
        raise NoStand(rows)
    reach = len(rows[0]) // 2
    text = "".join([row[reach] for row in rows])
    if not all([window_at(text, seat, reach) == row for seat, row in enumerate(rows)]):
        raise NoStand(rows)
    return text


def _are_windows_by_form(rows):
    """Returns whether rows are a list or a tuple of rows of signs, all of one odd length."""
    if not isinstance(rows, (list, tuple)) or len(rows) == 0:
        return False
    if not all([is_row(row, "0123") for row in rows]):
        return False
    length = len(rows[0])
    return length % 2 == 1 and all([len(row) == length for row in rows])


def all_stands(signs, size):
    """Returns the ascending list of all stands of size seats; signs are in ascending order."""
    if size < 1:
        return []
    texts = [""]
    for _ in range(size):
        texts = [text + sign for text in texts for sign in signs]
    return texts
