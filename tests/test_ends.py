"""[71] ends."""

import unittest

from standwaves.ends import end_of, last_standing, late_stand, moving_from, quiet_after, same_end
from standwaves.errors import Turns
from standwaves.turning import heights_of, turning_number
from standwaves.rules import Rule
from tests.plain import plain_beat, plain_stands, plain_turn

WAVE = Rule("0111")
FAR = 10 ** 39
GREAT = ["0" * 39 + "1", "012" * 13, "012" * 12 + "0000", "0" * 20 + "2" * 20, "1" * 20 + "0" * 20, "021" * 13 + "0",
         "0122" * 10, "0001020211012201" * 2, "210" * 6 + "012" * 6 + "0210", "012" + "0" * 37, "021" + "0" * 37,
         "01" * 20, "0" * 40, "2" * 40, "1" * 40, "012" * 6 + "0" + "210" * 6 + "2", "012012" + "0" * 34]


def beat(text):
    """Returns a stand a beat later."""
    return plain_beat("0111", 1, text)


def path(text, many):
    """Returns the stands at first and after 1, .., many beats."""
    stands = [text]
    for _ in range(many):
        stands.append(beat(stands[-1]))
    return stands


def some_stands():
    """Returns all stands of up to six seats, some of eight, and great ones."""
    small = [text for size in range(1, 6) for text in plain_stands(WAVE, size)]
    return small + plain_stands(WAVE, 6)[::7] + plain_stands(WAVE, 8)[::97] + GREAT


def plain_end(text):
    """Returns the turning number, and how many beats later it is still or turns at each of many beats."""
    stands = path(text, 60)
    number = sum({0: 0, 1: 1, 2: -1}[(int(text[seat]) - int(text[seat - 1])) % 3] for seat in range(len(text))) // 3
    if number == 0:
        return (0, stands.index("0" * len(text)))
    places = -1 if number > 0 else 1
    beats = 60
    while beats > 0 and plain_turn(stands[beats - 1], places) == stands[beats]:
        beats -= 1
    return (number, beats)


class EndsTest(unittest.TestCase):

    def test_ends(self):
        for text in some_stands():
            number, beats = plain_end(text)
            self.assertEqual(end_of(text), (number, beats), text)
            self.assertEqual(quiet_after(text), beats if number == 0 else None)
            self.assertEqual(moving_from(text), None if number == 0 else beats)

    def test_bounds(self):
        for text in some_stands():
            number, beats = end_of(text)
            self.assertEqual(number, turning_number(WAVE, text))
            self.assertLessEqual(beats, len(text) // 2 + (2 if number == 0 else 4))

    def test_still_at_once_and_moving_at_once(self):
        self.assertEqual([end_of("0"), end_of("0" * 40), end_of("012"), end_of("0012")], [(0, 0), (0, 0), (1, 0), (1, 0)])
        self.assertEqual([end_of("1"), end_of("2"), end_of("20"), end_of("10")], [(0, 2), (0, 1), (0, 1), (0, 3)])
        self.assertEqual([moving_from("021"), moving_from("0" * 37 + "021"), moving_from("0")], [0, 0, None])

    def test_heights_tell_when_it_is_still(self):
        for text in some_stands():
            heights = heights_of(WAVE, text)
            if heights is not None:
                size = len(text)
                top = max(heights)
                while top % 3 > 0:
                    top += 1
                near = [seat for seat in range(size) if heights[seat] >= top - 2]
                beats = []
                for seat in range(size):
                    if seat in near:
                        beats.append(top - heights[seat])
                    else:
                        beats.append(2 + min(min((seat - other) % size, (other - seat) % size) for other in near))
                self.assertEqual(quiet_after(text), max(beats), text)


class LateTest(unittest.TestCase):

    def test_small_numbers(self):
        for text in some_stands():
            for many, stand in list(enumerate(path(text, 50)))[::8]:
                self.assertEqual(late_stand(text, many), stand)
            number, beats = end_of(text)
            for many in range(max(0, beats - 2), beats + 3):
                self.assertEqual(late_stand(text, many), path(text, many)[-1])

    def test_numbers_of_forty_figures(self):
        for text in GREAT + ["0", "012", "021", "01201", "10", "0012", "1021"]:
            size = len(text)
            for many in (FAR, FAR + 1, 9 * FAR + 38):
                less = 60 * size + many % size
                self.assertEqual(late_stand(text, many), late_stand(text, less) if less < 400
                                 else late_stand(text, 120 + (many - 120) % size))
                self.assertEqual(late_stand(text, many + 1), beat(late_stand(text, many)))
        self.assertEqual(late_stand("01201", 10 ** 30 + 3), "01200")
        self.assertEqual(late_stand("100", FAR), "000")

    def test_no_beats(self):
        for text in GREAT:
            self.assertEqual(late_stand(text, 0), text)


class SameEndTest(unittest.TestCase):

    def test_small_stands(self):
        for size in (1, 2, 3, 4):
            stands = plain_stands(WAVE, size)[::1 if size < 4 else 2]
            late = {text: path(text, 20)[-1] for text in stands}
            for one in stands:
                for other in stands:
                    self.assertIs(same_end(one, other), late[one] == late[other], (one, other))

    def test_five_seats(self):
        stands = [text for text in plain_stands(WAVE, 5) if turning_number(WAVE, text) > 0]
        late = {text: path(text, 20)[-1] for text in stands}
        self.assertIs(any(late[one] == late[other] for one in stands for other in stands if one != other), True)
        for one in stands:
            for other in stands:
                self.assertIs(same_end(one, other), late[one] == late[other])

    def test_unlike_sizes(self):
        for one, other in (("0", "00"), ("100", "0000"), ("012", "012012"), ("0" * 39, "0" * 40), ("012", "0012")):
            self.assertIs(same_end(one, other), False)
            self.assertIs(same_end(other, one), False)

    def test_great_stands(self):
        for one in GREAT:
            for other in GREAT:
                wanted = len(one) == len(other) and path(one, 80)[-1] == path(other, 80)[-1]
                self.assertIs(same_end(one, other), wanted)
        self.assertIs(same_end("012" * 13, "120" * 13), False)
        one = "012" + "0" * 37
        changed = [one[:seat] + sign + one[seat + 1:] for seat in range(5, 38, 8) for sign in "12"]
        told = [same_end(one, other) for other in changed]
        self.assertEqual(told, [path(one, 80)[-1] == path(other, 80)[-1] for other in changed])
        self.assertEqual(set(told), {True, False})


class LastStandingTest(unittest.TestCase):

    def test_last_standing(self):
        for text in some_stands():
            number = turning_number(WAVE, text)
            if number == 0:
                standing = [stand for stand in path(text, 60) if "1" in stand]
                last = standing[-1] if standing else ""
                self.assertEqual(last_standing(text), [seat for seat, sign in enumerate(last) if sign == "1"])
            else:
                with self.assertRaises(Turns) as caught:
                    last_standing(text)
                self.assertEqual(caught.exception.number, number)
                self.assertIs(type(caught.exception), Turns)

    def test_nobody_ever_stands(self):
        for text in ("0", "2", "00", "22", "20", "0" * 40, "2" * 40, "0220"):
            self.assertEqual(last_standing(text), [])

    def test_at_first_alone(self):
        self.assertEqual([last_standing("1"), last_standing("12"), last_standing("1" * 40)], [[0], [0], list(range(40))])
        self.assertEqual([last_standing("10"), last_standing("100"), last_standing("1000")], [[1], [1, 2], [2]])

    def test_turning_numbers(self):
        for text, number in (("012", 1), ("021", -1), ("012" * 13, 13), ("021" * 13, -13)):
            with self.assertRaises(Turns) as caught:
                last_standing(text)
            self.assertEqual(caught.exception.number, number)

    def test_new_lists(self):
        last_standing("10").append(9)
        self.assertEqual(last_standing("10"), [1])


if __name__ == "__main__":
    unittest.main()
