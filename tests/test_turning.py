"""[70] turning."""

import unittest

from standwaves.errors import Jump, NoPlace
from standwaves.rules import Rule
from standwaves.turning import (
    are_heights, changing_stand, heights_of, is_even, keeps_turning, many_with, most_turning, nth_with,
    place_with, steps_of, turning_number)
from tests.plain import plain_beat, plain_stands, strange_values

WAVE = Rule("0111")
TWO = Rule("0111", 2)
FAR = 10 ** 39


def plain_steps(rule, text):
    """Returns the steps, each the one of -1, 0, 1 and 2 that leads from sign to sign."""
    many = rule.rests + 2
    steps = []
    for seat in range(len(text)):
        own, right = int(text[seat]), int(text[(seat + 1) % len(text)])
        steps += [step for step in ((-1, 0, 1) if many == 3 else (-1, 0, 1, 2)) if (own + step - right) % many == 0]
    return steps


def plain_number(rule, text):
    """Returns the turning number, None if a stand is not even."""
    steps = plain_steps(rule, text)
    return None if 2 in steps else sum(steps) // (rule.rests + 2)


def both_rules():
    """Returns tuples (rule, size), for one rest and two."""
    return [(rule, size) for rule, most in ((WAVE, 6), (Rule("1010"), 3), (TWO, 5), (Rule("0010", 2), 2))
            for size in range(1, most + 1)]


class StepsTest(unittest.TestCase):

    def test_steps_and_numbers(self):
        for rule, size in both_rules():
            for text in plain_stands(rule, size):
                steps = plain_steps(rule, text)
                self.assertEqual(len(steps), size)
                self.assertEqual(steps_of(rule, text), steps)
                self.assertIs(is_even(rule, text), 2 not in steps)
                if 2 in steps:
                    with self.assertRaises(Jump) as caught:
                        turning_number(rule, text)
                    self.assertEqual(caught.exception.seat, steps.index(2))
                    self.assertIs(type(caught.exception), Jump)
                else:
                    self.assertEqual(turning_number(rule, text) * (rule.rests + 2), sum(steps))

    def test_one_seat_and_two(self):
        self.assertEqual([steps_of(WAVE, "1"), steps_of(TWO, "3"), turning_number(TWO, "3")], [[0], [0], 0])
        self.assertEqual([steps_of(WAVE, "02"), steps_of(TWO, "03"), steps_of(TWO, "02")], [[-1, 1], [-1, 1], [2, 2]])
        self.assertEqual([is_even(TWO, "02"), is_even(TWO, "03"), is_even(WAVE, "02")], [False, True, True])

    def test_great_stands(self):
        self.assertEqual(turning_number(WAVE, "012" * 13), 13)
        self.assertEqual(turning_number(WAVE, "210" * 13), -13)
        self.assertEqual(turning_number(TWO, "0123" * 10), 10)
        self.assertEqual(turning_number(TWO, "3210" * 10), -10)
        self.assertEqual(turning_number(WAVE, "0" * 40), 0)

    def test_the_least_jump(self):
        for text, seat in (("0002", 2), ("0200", 0), ("2000", 0), ("0013", 2), ("1230131", 4), ("3333311111", 4)):
            with self.assertRaises(Jump) as caught:
                turning_number(TWO, text)
            self.assertEqual(caught.exception.seat, seat, text)

    def test_the_greatest_number(self):
        for rule, size in both_rules():
            numbers = [plain_number(rule, text) for text in plain_stands(rule, size)]
            self.assertEqual(most_turning(rule, size), max(number for number in numbers if number is not None))
        self.assertEqual(most_turning(WAVE, 3 * FAR + 2), FAR)
        self.assertEqual(most_turning(TWO, 4 * FAR + 3), FAR)


class KeepingTest(unittest.TestCase):

    def test_all_rules(self):
        for rests in (1, 2):
            for rule in Rule.all_of(rests):
                changed = None
                for size in range(1, 6 if rests == 1 else 5):
                    for text in plain_stands(rule, size):
                        number = plain_number(rule, text)
                        later = plain_number(rule, plain_beat(rule.table, rests, text))
                        if changed is None and number is not None and later != number:
                            changed = text
                self.assertIs(keeps_turning(rule), changed is None, rule.table)
                self.assertEqual(changing_stand(rule), changed)

    def test_by_the_table(self):
        kept = [rule.table for rule in Rule.all_of(1) if keeps_turning(rule)]
        self.assertEqual(kept, ["0110", "0111", "1110", "1111"])
        kept = [rule.table for rule in Rule.all_of(2) if keeps_turning(rule)]
        self.assertEqual(kept, ["0111", "1111"])


class HeightsTest(unittest.TestCase):

    def test_all_small_stands(self):
        for rule, size in both_rules():
            for text in plain_stands(rule, size):
                heights = heights_of(rule, text)
                if plain_number(rule, text) == 0:
                    self.assertEqual(heights[0], int(text[0]))
                    self.assertIs(are_heights(rule, text, heights), True)
                    for up in (3, -3, 4, 1):
                        told = up % (rule.rests + 2) == 0
                        self.assertIs(are_heights(rule, text, [height + up for height in heights]), told)
                else:
                    self.assertIsNone(heights)

    def test_none_is_left_out(self):
        # Of all lists that begin with the sign, just one at most is one of heights.
        for rule, text in ((WAVE, "0120"), (WAVE, "0210"), (WAVE, "012"), (TWO, "0132"), (TWO, "0301"), (WAVE, "22")):
            lists = [[int(text[0])]]
            for _ in text[1:]:
                lists = [heights + [height] for heights in lists for height in range(-6, 7)]
            told = [heights for heights in lists if are_heights(rule, text, heights)]
            wanted = heights_of(rule, text)
            self.assertEqual(told, [] if wanted is None else [wanted])

    def test_heights(self):
        self.assertEqual(heights_of(WAVE, "0110"), [0, 1, 1, 0])
        self.assertEqual(heights_of(WAVE, "0220"), [0, -1, -1, 0])
        self.assertEqual(heights_of(WAVE, "2012012102102"), [2, 3, 4, 5, 6, 7, 8, 7, 6, 5, 4, 3, 2])
        self.assertEqual([heights_of(WAVE, "2"), heights_of(TWO, "3"), heights_of(TWO, "30")], [[2], [3], [3, 4]])
        self.assertEqual([heights_of(TWO, "02"), heights_of(TWO, "0123"), heights_of(WAVE, "012")], [None, None, None])
        self.assertEqual(heights_of(WAVE, "012" * 6 + "0" + "021" * 6 + "000")[18:20], [18, 18])

    def test_no_heights(self):
        for thing in ((0, 1), [0], [0, 1, 0], [], [0, 4], [3, 1], [0, True], [False, 1], ["0", "1"], [0, "1"], "01", None,
                      [0, None], {0: 0, 1: 1}, [[0], [1]], [1, 0], [0, 1.0], 0, [0, -2], [0, 2]):
            self.assertIs(are_heights(WAVE, "01", thing), False, thing)
        for thing in ([0, 1], [-3, -2], [3, 4], [3 * FAR, 3 * FAR + 1], [-3 * 10 ** 900, 1 - 3 * 10 ** 900]):
            self.assertIs(are_heights(WAVE, "01", thing), True)
        self.assertIs(are_heights(WAVE, "021", [0, -1, -2]), False)
        self.assertIs(are_heights(WAVE, "0210", [0, -1, -2, -3]), False)
        self.assertIs(are_heights(TWO, "02", [0, 2]), False)
        self.assertIs(are_heights(TWO, "0", [4]), True)
        self.assertIs(are_heights(TWO, "0", [3]), False)

    def test_any_value(self):
        for value in strange_values():
            self.assertIs(are_heights(WAVE, "02", value), False, value)
            wanted = type(value) is int and value % 3 == 0
            self.assertIs(are_heights(WAVE, "0", [value]), wanted, value)

    def test_new_lists(self):
        thing = [0, 1]
        are_heights(WAVE, "01", thing)
        heights_of(WAVE, "01").append(9)
        steps_of(WAVE, "01").append(9)
        self.assertEqual((thing, heights_of(WAVE, "01"), steps_of(WAVE, "01")), ([0, 1], [0, 1], [1, -1]))


class NumbersTest(unittest.TestCase):

    def test_all_small_stands(self):
        for rule, size in both_rules():
            stands = {}
            for text in plain_stands(rule, size):
                stands.setdefault(plain_number(rule, text), []).append(text)
            for number in range(-3, 4):
                texts = stands.get(number, [])
                self.assertEqual(many_with(rule, size, number), len(texts))
                self.assertEqual([nth_with(rule, size, number, place) for place in range(len(texts))], texts)
                self.assertEqual([place_with(rule, text) for text in texts], list(range(len(texts))))
                with self.assertRaises(NoPlace):
                    nth_with(rule, size, number, len(texts))

    def test_numbers_of_which_there_is_no_stand(self):
        for rule in (WAVE, TWO):
            for number in (14, -14, FAR, -FAR):
                self.assertEqual(many_with(rule, 40, number), 0)
                for place in (0, 1, -1, None):
                    with self.assertRaises(NoPlace) as caught:
                        nth_with(rule, 40, number, place)
                    self.assertIs(caught.exception.place, place)
        self.assertEqual([many_with(WAVE, 1, 0), many_with(WAVE, 1, 1), many_with(TWO, 2, 1)], [3, 0, 0])

    def test_great_sizes(self):
        # With one rest each stand is even, so all of them are counted.
        self.assertEqual(sum(many_with(WAVE, 200, number) for number in range(-66, 67)), 3 ** 200)
        self.assertEqual([many_with(WAVE, 198, 66), many_with(WAVE, 200, 67), many_with(TWO, 200, 50)], [3, 0, 4])
        self.assertEqual(many_with(TWO, 200, -49), many_with(TWO, 200, 49))
        self.assertEqual(many_with(TWO, 200, 49), 4 * self.plain_ways(200, 196))
        self.assertEqual(many_with(WAVE, 200, -3), 3 * self.plain_ways(200, -9))

    def plain_ways(self, many, total):
        """Returns in how many ways so many steps add up to a total, step by step."""
        ways = {0: 1}
        for _ in range(many):
            more = {}
            for height, number in ways.items():
                for step in (-1, 0, 1):
                    more[height + step] = more.get(height + step, 0) + number
            ways = more
        return ways.get(total, 0)

    def test_forty_seats(self):
        for rule in (WAVE, TWO):
            for number in (-10, -1, 0, 3, 10):
                many = many_with(rule, 40, number)
                last = ""
                for place in (0, 1, many // 3, many // 2, many - 1):
                    if place < many:
                        text = nth_with(rule, 40, number, place)
                        self.assertEqual((len(text), turning_number(rule, text)), (40, number))
                        self.assertEqual(place_with(rule, text), place)
                        self.assertGreaterEqual(text, last)
                        last = text
                with self.assertRaises(NoPlace):
                    nth_with(rule, 40, number, many)
        self.assertEqual(nth_with(WAVE, 40, 0, 0), "0" * 40)
        # Above a stand of signs 2 alone there is none.
        self.assertEqual(place_with(WAVE, "2" * 40), many_with(WAVE, 40, 0) - 1)

    def test_no_place(self):
        for value in strange_values() + [3, 4, -1, FAR, "1", [0], (1,)]:
            if not (type(value) is int and 0 <= value < 3):
                with self.assertRaises(NoPlace) as caught:
                    nth_with(WAVE, 3, 1, value)
                self.assertIs(caught.exception.place, value)
                self.assertIs(type(caught.exception), NoPlace)
        self.assertEqual(nth_with(WAVE, 3, 1, 2), "201")


if __name__ == "__main__":
    unittest.main()
