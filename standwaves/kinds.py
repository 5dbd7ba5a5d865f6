"""Of what kind a value is."""


def is_integer(thing):
    """Returns whether thing is an integer; True and False are none."""
    return isinstance(thing, int) and not isinstance(thing, bool)


def is_count(thing):
    """Returns whether thing is an integer from 0 on."""
    return is_integer(thing) and thing >= 0


def is_number(thing):
    """Returns whether thing is an integer from 1 on."""
    return is_integer(thing) and thing >= 1


def is_row(thing, signs):
    """Returns whether thing is a string, perhaps empty, of characters of signs alone."""
    return isinstance(thing, str) and all([sign in signs for sign in thing])


def is_stand(thing, signs):
    """Returns whether thing is a string, not empty, of characters of signs alone."""
    return is_row(thing, signs) and len(thing) > 0


def is_table(thing):
    """Returns whether thing is a string of four characters 0 and 1."""
    return is_row(thing, "01") and len(thing) == 4


def are_different(thing, low, high):
    """Returns whether thing is a list or a tuple of different integers from low on and below high."""
    if not isinstance(thing, (list, tuple)):
        return False
    if not all([is_integer(number) and low <= number < high for number in thing]):
        return False
    return len(set(thing)) == len(thing)
