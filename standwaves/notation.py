"""Rules, calendars, shapes, deeds, logs and paths as texts."""


def show_numbers(numbers):
    """Returns integers with commas between, none if there are none."""
    return ",".join([str(number) for number in numbers]) if len(numbers) > 0 else "none"


def show_rule(rule):
    """Returns the text of a Rule: its table and its rests."""
    return f"{rule.table} {rule.rests}"


def show_calendar(calendar):
    """Returns the text of a Calendar: its start, early sizes, period and rests."""
    early = show_numbers(calendar.early)
    rests = show_numbers(calendar.rests)
    return f"{calendar.start} {early} {calendar.period} {rests}"


def show_shape(shape):
    """Returns the text of a shape: its p and its q."""
    p, q = shape
    return f"{p}/{q}"


def show_deed(deed):
    """Returns the text of a deed: its word and what follows."""
    return " ".join([str(part) for part in deed])


def show_log(game):
    """Returns the lines of the deeds of a Game's log, none if there are none."""
    return "\n".join([show_deed(deed) for deed in game]) if len(game) > 0 else "none"


def show_path(stands):
    """Returns the lines of a list of stands."""
    return "\n".join(stands)
