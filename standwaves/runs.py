"""What a stand becomes, beat by beat, and when it comes again."""

from standwaves.stands import all_stands, least_turn, turns_between


def after(rule, text, many):
    """Returns a stand many beats later."""
    for _ in range(many):
        text = rule.ring_after(text)
    return text


def row_after(rule, row, many):
    """Returns what becomes of the characters of a row that have many neighbours on both sides."""
    for _ in range(many):
        row = rule.inner_after(row)
    return row


def middles_after(rule, many):
    """Returns the dict from all rows of 2 * many + 1 signs, ascending, to what their middles become."""
    middles = {sign: sign for sign in rule.signs}
    for beats in range(1, many + 1):
        # Of a row a beat less makes three characters, and the last beat one.
        inner = middles
        middles = {row: rule(inner[row[:-2]], inner[row[1:-1]], inner[row[2:]])
                   for row in all_stands(rule.signs, 2 * beats + 1)}
    return middles


def path_by(step, thing):
    """Returns the list of a thing and what steps make of it, up to the last that did not come before."""
    path = []
    seen = set()
    while thing not in seen:
        seen.add(thing)
        path.append(thing)
        thing = step(thing)
    return path


def fate_by(step, thing):
    """Returns the least tuple (early, period) such that steps make the thing come again, and when."""
    path = path_by(step, thing)
    early = path.index(step(path[-1]))
    return (early, len(path) - early)


def path_of(rule, text):
    """Returns the list of the stands, beat by beat, up to the last one that did not come before."""
    return path_by(lambda stand: rule.ring_after(stand), text)


def fate_of(rule, text):
    """Returns the least tuple (early, period) such that the stand comes again, and when."""
    return fate_by(lambda stand: rule.ring_after(stand), text)


def late_after(rule, text, many):
    """Returns a stand many beats later, a number of any length, by its fate."""
    path = path_of(rule, text)
    if many < len(path):
        return path[many]
    early = path.index(rule.ring_after(path[-1]))
    return path[early + (many - early) % (len(path) - early)]


def turning_fate(rule, text):
    """Returns the least tuple (early, beats, places): when the stand comes again, but turned."""
    # Stands that are turns of one another go on as such, so the least turns
    # have a path of their own, and the first that comes again ends it.
    turns = []
    stands = []
    seen = set()
    turn = least_turn(text)
    while turn not in seen:
        seen.add(turn)
        turns.append(turn)
        stands.append(text)
        text = rule.ring_after(text)
        turn = least_turn(text)
    early = turns.index(turn)
    return (early, len(turns) - early, turns_between(stands[early], text)[0])


def still_from(rule, text):
    """Returns the least number of beats after which a stand is still, None if it never is."""
    # A still stand is its own next one, so it can only be the last of its path.
    path = path_of(rule, text)
    return len(path) - 1 if rule.is_still(path[-1]) else None


def standers(rule, text, many):
    """Returns the list of how many seats stand at first and after 1, .., many beats."""
    numbers = [text.count("1")]
    for _ in range(many):
        text = rule.ring_after(text)
        numbers.append(text.count("1"))
    return numbers
