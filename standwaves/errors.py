"""The errors of the package: each keeps what it was made of, as fields."""


class WaveError(ValueError):
    """What all errors of the package are; it is raised nowhere itself."""


class Wrong(WaveError):
    """The argument at a place, counted from 0, is not as described."""

    def __init__(self, place):
        self.place = place


class NoStand(WaveError):
    """The rows are not the windows of any stand."""

    def __init__(self, rows):
        self.rows = rows


class TooMany(WaveError):
    """A web has more nodes than the limit."""

    def __init__(self, limit):
        self.limit = limit


class NoWalk(WaveError):
    """The thing is no closed walk of a web."""

    def __init__(self, thing):
        self.thing = thing


class NoNumber(WaveError):
    """There is no shape of this number."""

    def __init__(self, number):
        self.number = number


class Jump(WaveError):
    """The stand is not even: the step of this seat is 2."""

    def __init__(self, seat):
        self.seat = seat


class Turns(WaveError):
    """The stand is never still: it has this turning number."""

    def __init__(self, number):
        self.number = number


class NoPlace(WaveError):
    """There is no even stand of this place."""

    def __init__(self, place):
        self.place = place


class NoSeats(WaveError):
    """These are no stubborn seats of the stand."""

    def __init__(self, seats):
        self.seats = seats


class NoDeed(WaveError):
    """This is no deed by its form."""

    def __init__(self, deed):
        self.deed = deed


class Full(WaveError):
    """As many deeds as the limit are done."""

    def __init__(self, limit):
        self.limit = limit


class Refused(WaveError):
    """The deed cannot be done now."""

    def __init__(self, deed):
        self.deed = deed


class Nothing(WaveError):
    """There is nothing to undo or to redo."""

    def __init__(self):
        pass


class NoEntry(WaveError):
    """The log has not so many deeds."""

    def __init__(self, many):
        self.many = many


class NoText(WaveError):
    """The thing is no text of what is to be read."""

    def __init__(self, thing):
        self.thing = thing


class Broken(WaveError):
    """The Game does not do the deed of this line, counted from 0."""

    def __init__(self, line):
        self.line = line


class NoCommand(WaveError):
    """The line is no command of the desk."""

    def __init__(self, line):
        self.line = line
