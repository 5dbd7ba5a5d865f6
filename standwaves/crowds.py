"""Who stands by the Rule("0111"), beat by beat, as numbers.

A crowd has a hexadecimal digit for each seat, that of the first seat ahead: 1 if the seat stands,
otherwise 0. So a beat takes a few steps for all seats at once.
"""


def first_crowds(text, many):
    """Returns the list of the crowds of a stand at first and after 1, .., many beats."""
    ones = int("1" * len(text), 16)
    far = 4 * (len(text) - 1)
    signs = int(text, 16)
    standing = signs & ones
    resting = (signs >> 1) & ones
    crowds = [standing]
    for _ in range(many):
        beside = (standing << 4) | (standing >> far) | (standing >> 4) | (standing << far)
        standing, resting = ones & beside & ~(standing | resting), standing
        crowds.append(standing)
    return crowds


def stand_of(standing, resting, size):
    """Returns the stand in which one crowd stands and the other one rests."""
    return f"{standing + 2 * resting:x}".zfill(size)


def seats_of(crowd, size):
    """Returns the ascending list of the seats of a crowd."""
    return [seat for seat, sign in enumerate(f"{crowd:x}".zfill(size)) if sign == "1"]


def has_seat(crowd, seat, size):
    """Returns whether a seat is one of a crowd."""
    return (crowd >> (4 * (size - 1 - seat))) & 1 == 1


def turned_crowd(crowd, places, size):
    """Returns a crowd turned by places, as its stand would be."""
    cut = 4 * (places % size)
    low = crowd & ((1 << cut) - 1)
    return (low << (4 * size - cut)) | (crowd >> cut)
