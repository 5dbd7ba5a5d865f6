"""Rows with two ends, beside which nobody ever stands."""

from standwaves.runs import fate_by, path_by


def _row_beat(rule, row):
    """Returns a row a beat later."""
    return rule.inner_after("0" + row + "0")


def row_beats(rule, row, many):
    """Returns a row, perhaps empty, after many beats."""
    for _ in range(many):
        row = _row_beat(rule, row)
    return row


def row_quiet(rule, row):
    """Returns the least number of beats after which a row has only "0" and stays so, None if there is none."""
    # Who stands or rests has another sign a beat later, so a row that stays
    # as it is has only "0".
    early, period = row_fate(rule, row)
    return early if period == 1 else None


def row_fate(rule, row):
    """Returns the least tuple (early, period) such that the row comes again, and when."""
    return fate_by(lambda stage: _row_beat(rule, stage), row)


def joined_rows(rule, one, other):
    """Returns whether two rows go on as one, the other behind the one, as each does by itself."""
    # As long as they do, the joined row tells what each is by itself; when it
    # comes again, so do both.
    cut = len(one)
    path = path_by(lambda stage: _row_beat(rule, stage), one + other)
    return all([_row_beat(rule, row) == _row_beat(rule, row[:cut]) + _row_beat(rule, row[cut:]) for row in path])
