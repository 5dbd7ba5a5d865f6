"""[72] waves."""

import unittest

from standwaves.calendars import Calendar
from standwaves.errors import Turns
from standwaves.rules import Rule
from standwaves.turning import steps_of, turning_number
from standwaves.waves import (
    all_standing, beats_of, comes_from, how_often, last_beat, next_standing, standing_calendar, stands_at)
from tests.plain import plain_beat, plain_stands

WAVE = Rule("0111")
FAR = 10 ** 39
GREAT = ["0" * 39 + "1", "012" * 13, "012" * 12 + "0000", "0" * 20 + "2" * 20, "021" * 13 + "0", "0122" * 10,
         "210" * 6 + "012" * 6 + "0210", "2" * 40, "021" + "0" * 37]


def path(text, many):
    """Returns the stands at first and after 1, .., many beats."""
    stands = [text]
    for _ in range(many):
        stands.append(plain_beat("0111", 1, stands[-1]))
    return stands


def some_stands():
    """Returns all stands of up to four seats, some greater ones."""
    small = [text for size in range(1, 4) for text in plain_stands(WAVE, size)]
    return small + plain_stands(WAVE, 4)[::2] + plain_stands(WAVE, 7)[::101] + ["01201", "0120000", "00021021"]


def sides(before, seat):
    """Returns the sides on which a neighbour stood."""
    around = [("left", seat - 1), ("right", seat + 1)]
    return [side for side, other in around if before[other % len(before)] == "1"]


class BeatsTest(unittest.TestCase):

    def test_each_beat(self):
        for text in some_stands() + GREAT[:3]:
            stands = path(text, 45)
            for beat in (0, 1, 2, 3, 4, 5, 7, 12, 44):
                standing = [seat for seat, sign in enumerate(stands[beat]) if sign == "1"]
                self.assertEqual(all_standing(text, beat), standing)
                for seat in range(len(text)):
                    self.assertIs(stands_at(text, seat, beat), seat in standing)
                    told = sides(stands[beat - 1], seat) if beat > 0 and seat in standing else []
                    self.assertEqual(comes_from(text, seat, beat), told)

    def test_all_of_a_seat(self):
        for text in some_stands() + GREAT:
            stands = path(text, 200)
            for seat in {0, len(text) // 2, len(text) - 1}:
                beats = [beat for beat, stand in enumerate(stands) if stand[seat] == "1"]
                for many in (1, 2, 5):
                    self.assertEqual(beats_of(text, seat, many), beats[:many])
                for beat in list(range(12)) + [40, 99]:
                    after = [other for other in beats if other >= beat]
                    self.assertEqual(next_standing(text, seat, beat), after[0] if after else None)
                    self.assertEqual(how_often(text, seat, beat), len([other for other in beats if other < beat]))
                calendar = standing_calendar(text, seat)
                self.assertEqual([beat for beat in range(1, 201) if beat in calendar], [beat for beat in beats if beat > 0])
                number = turning_number(WAVE, text)
                if number == 0:
                    self.assertEqual(last_beat(text, seat), beats[-1] if beats else None)
                else:
                    with self.assertRaises(Turns) as caught:
                        last_beat(text, seat)
                    self.assertEqual(caught.exception.number, number)
                    self.assertIs(type(caught.exception), Turns)

    def test_sixty_beats(self):
        self.assertEqual(beats_of("012", 0, 60), list(range(1, 180, 3)))
        self.assertEqual(beats_of("120", 0, 60), list(range(0, 180, 3)))
        self.assertEqual(beats_of("100", 1, 60), [1])
        self.assertEqual(beats_of("0" * 37 + "012", 37, 3), [1, 41, 81])

    def test_seats_at_which_nobody_ever_stands(self):
        for text, seat in (("0", 0), ("2", 0), ("00", 1), ("20", 0), ("0" * 40, 39), ("2" * 40, 7)):
            self.assertEqual([beats_of(text, seat, 60), next_standing(text, seat, 0), next_standing(text, seat, FAR)],
                             [[], None, None])
            self.assertEqual([how_often(text, seat, FAR), last_beat(text, seat), standing_calendar(text, seat)],
                             [0, None, Calendar(1, [], 1, [])])

    def test_at_first_alone(self):
        self.assertEqual([beats_of("1", 0, 3), next_standing("1", 0, 0), next_standing("1", 0, 1)], [[0], 0, None])
        self.assertEqual([how_often("1", 0, 0), how_often("1", 0, 1), how_often("1", 0, FAR)], [0, 1, 1])
        self.assertEqual([last_beat("1", 0), standing_calendar("1", 0) == Calendar(1, [], 1, [])], [0, True])
        self.assertEqual([last_beat("100", 0), last_beat("100", 1), last_beat("10", 1)], [0, 1, 1])


class FarTest(unittest.TestCase):

    def test_beats_of_forty_figures(self):
        for text in GREAT + ["012", "021", "01201", "0", "10"]:
            size = len(text)
            near = 80 * size + FAR % size
            stands = path(text, 120)
            stand = stands[120 - (120 - FAR) % size]
            self.assertEqual(all_standing(text, FAR), [seat for seat, sign in enumerate(stand) if sign == "1"])
            for seat in range(0, size, 7):
                self.assertIs(stands_at(text, seat, FAR), stand[seat] == "1")
                self.assertIs(stands_at(text, seat, near), stand[seat] == "1")
                before = stands[120 - (120 - FAR) % size - 1]
                self.assertEqual(comes_from(text, seat, FAR), sides(before, seat) if stand[seat] == "1" else [])
                later = next_standing(text, seat, FAR)
                if turning_number(WAVE, text) == 0:
                    self.assertIsNone(later)
                    self.assertEqual(how_often(text, seat, FAR), how_often(text, seat, 100))
                else:
                    self.assertIs(FAR <= later < FAR + size, True)
                    self.assertIs(stands_at(text, seat, later), True)
                    self.assertEqual(how_often(text, seat, later), how_often(text, seat, FAR))
                    self.assertEqual(how_often(text, seat, later + 1), how_often(text, seat, FAR) + 1)
                    more = how_often(text, seat, FAR) - how_often(text, seat, FAR % size + 120 * size)
                    around = len([1 for other in stands[-size:] if other[seat] == "1"])
                    self.assertEqual(more, around * (FAR // size - 120))

    def test_forty_figures_of_the_least_waves(self):
        self.assertEqual([how_often("012", 0, 3 * FAR), how_often("012", 0, 3 * FAR + 2)], [FAR, FAR + 1])
        self.assertEqual([next_standing("012", 0, 3 * FAR), next_standing("012", 0, 3 * FAR + 2)],
                         [3 * FAR + 1, 3 * FAR + 4])
        self.assertEqual([stands_at("012", 0, 3 * FAR + 1), stands_at("012", 0, 3 * FAR)], [True, False])
        self.assertEqual([all_standing("021", 3 * FAR), all_standing("021", 3 * FAR + 1)], [[2], [0]])
        self.assertEqual([comes_from("012", 0, 3 * FAR + 1), comes_from("021", 0, 3 * FAR + 1)], [["right"], ["left"]])


class SidesTest(unittest.TestCase):

    def test_neighbours_that_are_one_seat(self):
        self.assertEqual([comes_from("10", 1, 1), comes_from("01", 0, 1)], [["left", "right"], ["left", "right"]])
        self.assertEqual([comes_from("10", 0, 1), comes_from("1", 0, 0), comes_from("1", 0, 1)], [[], [], []])

    def test_sides(self):
        self.assertEqual([comes_from("1000", 1, 1), comes_from("1000", 3, 1), comes_from("1000", 2, 2)],
                         [["left"], ["right"], ["left", "right"]])
        self.assertEqual([comes_from("1000", 0, 0), comes_from("1010", 1, 1), comes_from("1000", 0, 1)],
                         [[], ["left", "right"], []])


class CalendarsTest(unittest.TestCase):

    def test_calendars(self):
        self.assertEqual(standing_calendar("012", 0), Calendar(1, [], 3, [1]))
        self.assertEqual(standing_calendar("012", 1), Calendar(1, [], 3, [0]))
        self.assertEqual(standing_calendar("100", 1), Calendar(2, [1], 1, []))
        self.assertEqual(standing_calendar("0" * 37 + "012", 0).period, 40)
        self.assertEqual(standing_calendar("012" * 13, 0), Calendar(1, [], 3, [1]))

    def test_the_line_of_the_heights(self):
        # A height that leaves 1 by 3 is first met by a seat when the nearest place of
        # that height is as far away; it must not be met below what the seat had before.
        for text in ("012", "01201", "0012", "021", "00120012", "0120000", "1201"):
            size, rounds = len(text), 40
            heights = [int(text[0])]
            for step in (steps_of(WAVE, text) * (2 * rounds))[:-1]:
                heights.append(heights[-1] + step)
            for seat in range(size):
                at = size * rounds + seat
                beats = []
                height = heights[at]
                while len(beats) < 4:
                    if height % 3 == 1:
                        far = [abs(place - at) for place in range(len(heights)) if heights[place] == height]
                        beats.append(min(far))
                    height += 1
                self.assertEqual(beats_of(text, seat, 4), beats, (text, seat))


if __name__ == "__main__":
    unittest.main()
