"""Desk: a Game led by lines."""

from standwaves.errors import NoCommand
from standwaves.game import Game
from standwaves.kinds import is_number
from standwaves.notation import show_calendar, show_deed, show_log, show_numbers, show_path, show_rule
from standwaves.readers import deed_in, integer_in
from standwaves.runs import fate_of, path_of, still_from
from standwaves.sizes import sizes_of
from standwaves.turning import turning_number


def _undo(game):
    """Undoes the last deed and returns its text; or Nothing."""
    return show_deed(game.undo())


def _redo(game):
    """Does the deed that was undone last and returns its text; or Nothing."""
    return show_deed(game.redo())


def _text(game):
    """Returns the stand."""
    return game.text


def _rule(game):
    """Returns the text of the rule."""
    return show_rule(game.rule)


def _log(game):
    """Returns the lines of the deeds done."""
    return show_log(game)


def _held(game):
    """Returns the stubborn seats as a text."""
    return show_numbers(game.held())


def _beats(game):
    """Returns how many beats there were, as a text."""
    return str(game.beats)


def _fate(game):
    """Returns the two integers of the fate of the stand, as a text."""
    early, period = fate_of(game.rule, game.text)
    return f"{early} {period}"


def _number_or_never(number):
    """Returns a number as a text, never for None."""
    return "never" if number is None else str(number)


def _still(game):
    """Returns after how many beats the stand is still, as a text."""
    return _number_or_never(still_from(game.rule, game.text))


def _turning(game):
    """Returns the turning number of the stand, as a text; or Jump."""
    return str(turning_number(game.rule, game.text))


def _path(game):
    """Returns the stands to which the stand leads, as lines."""
    return show_path(path_of(game.rule, game.text))


_ANSWERS = {"undo": _undo, "redo": _redo, "text": _text, "rule": _rule, "log": _log, "held": _held,
            "beats": _beats, "fate": _fate, "still": _still, "turning": _turning, "path": _path}
# How many integers stand behind the words that ask for sizes.
_ASKED = {"sizes": 2, "size": 3, "next": 3}


def _integers_behind(words):
    """Returns the list of the integers behind a word that asks for sizes, None if these are no such words."""
    numbers = [integer_in(word) for word in words[1:]]
    if len(numbers) != _ASKED.get(words[0]):
        return None
    *asked, p, q = numbers
    if p is None or not all([is_number(number) for number in [*asked, q]]):
        return None
    return numbers


def _told_of_sizes(word, numbers, rule):
    """Returns what a word asks of the sizes of the shapes (p, q), as a text; or TooMany."""
    *asked, p, q = numbers
    sizes = sizes_of(rule, p, q)
    if word == "sizes":
        return show_calendar(sizes)
    if word == "size":
        return "yes" if asked[0] in sizes else "no"
    return _number_or_never(sizes.least_from(asked[0]))


class Desk:
    """A Game of its own, led and asked by lines."""

    def __init__(self, rule, text):
        # The Game refuses what is wrong, and its places are those of the Desk.
        self._game = Game(rule, text)

    def execute(self, line):
        """Returns the text that answers a line; or NoCommand, or what the Game or a function raises."""
        if not isinstance(line, str):
            raise NoCommand(line)
        if line in _ANSWERS:
            answer = _ANSWERS[line]
            return answer(self._game)
        deed = deed_in(line)
        if deed is not None:
            self._game.do(deed)
            return "ok"
        words = line.split(" ")
        numbers = _integers_behind(words)
        if numbers is None:
            raise NoCommand(line)
        return _told_of_sizes(words[0], numbers, self._game.rule)
