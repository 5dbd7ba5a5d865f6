"""What is shown by texts, read back: only texts that are just as notation writes them."""

from standwaves.calendars import Calendar
from standwaves.deeds import is_deed
from standwaves.errors import Broken, Full, NoDeed, NoText, Refused, Wrong
from standwaves.game import Game
from standwaves.kinds import is_number, is_stand, is_table
from standwaves.notation import show_calendar
from standwaves.rules import Rule

_MOST_DIGITS = 40
_MOST_START = 2000
_MOST_PERIOD = 60


def integer_in(word):
    """Returns the integer that a word writes, None if it writes none."""
    digits = word[1:] if word.startswith("-") else word
    if not is_stand(digits, "0123456789") or len(digits) > _MOST_DIGITS:
        return None
    if digits[0] == "0" and word != "0":
        return None
    return int(word)


def _integers_in(word):
    """Returns the list of the integers that a word writes, with None for what writes none."""
    if word == "none":
        return []
    return [integer_in(part) for part in word.split(",")]


def _parts_of(text, mark, many):
    """Returns the list of the parts of a text between marks; or NoText if it has not so many."""
    if not isinstance(text, str):
        raise NoText(text)
    parts = text.split(mark)
    if len(parts) != many:
        raise NoText(text)
    return parts


def read_rule(text):
    """Returns the Rule that is shown by a text; or NoText."""
    table, rests = _parts_of(text, " ", 2)
    if not is_table(table) or rests not in ("0", "1", "2"):
        raise NoText(text)
    return Rule(table, int(rests))


def _calendar_of(words):
    """Returns the Calendar of four words, None if they are not its parts."""
    start = integer_in(words[0])
    period = integer_in(words[2])
    if start is None or start > _MOST_START or period is None or period > _MOST_PERIOD:
        return None
    try:
        return Calendar(start, _integers_in(words[1]), period, _integers_in(words[3]))
    except Wrong:
        return None


def read_calendar(text):
    """Returns the Calendar that is shown by a text; or NoText."""
    calendar = _calendar_of(_parts_of(text, " ", 4))
    # Other tellings of the same sizes are not what is shown.
    if calendar is None or show_calendar(calendar) != text:
        raise NoText(text)
    return calendar


def read_shape(text):
    """Returns the tuple (p, q) that is shown by a text; or NoText."""
    p, q = [integer_in(part) for part in _parts_of(text, "/", 2)]
    if p is None or not is_number(q):
        raise NoText(text)
    return (p, q)


def deed_in(text):
    """Returns the deed that is shown by a string, None if there is none."""
    words = text.split(" ")
    if len(words) < 2:
        return None
    told = words[1] if words[0] == "table" else integer_in(words[1])
    deed = (words[0], told) + tuple(words[2:])
    return deed if is_deed(deed, "0123") else None


def read_deed(text):
    """Returns the deed that is shown by a text; or NoText."""
    deed = deed_in(text) if isinstance(text, str) else None
    if deed is None:
        raise NoText(text)
    return deed


def read_path(text):
    """Returns the list of stands that is shown by a text; or NoText."""
    stands = text.split("\n") if isinstance(text, str) else [""]
    if not all([is_stand(stand, "0123") for stand in stands]):
        raise NoText(text)
    return stands


def _deeds_in(lines):
    """Returns the list of the deeds of lines; or NoText."""
    if lines == "none":
        return []
    deeds = [deed_in(line) for line in lines.split("\n")] if isinstance(lines, str) else [None]
    if None in deeds:
        raise NoText(lines)
    return deeds


def read_log(rule, text, lines):
    """Returns the Game, begun with a rule and a stand, in which the deeds of lines were done; or NoText, Broken."""
    deeds = _deeds_in(lines)
    game = Game(rule, text)
    for number, deed in enumerate(deeds):
        try:
            game.do(deed)
        except (NoDeed, Full, Refused):
            raise Broken(number) from None
    return game
