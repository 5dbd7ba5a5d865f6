"""[62] circles."""

import unittest

from standwaves.circles import (
    circle_of, circles_apart, circles_of, is_circle, longest_way, many_that_come, periods_of,
    stands_with_fate, way_in)
from standwaves.rules import Rule
from tests.plain import plain_beat, plain_stands, plain_turn, some_rules, strange_values

WAVE = Rule("0111")


def plain_path(rule, text):
    """Returns the stands ahead of the circle, and those of the circle as they come."""
    path = []
    while text not in path:
        path.append(text)
        text = plain_beat(rule.table, rule.rests, text)
    early = path.index(text)
    return path[:early], path[early:]


def turned_about(circle):
    """Returns a circle begun at its least stand."""
    at = circle.index(min(circle))
    return circle[at:] + circle[:at]


def small_sizes():
    """Returns tuples (rule, size), of small sizes."""
    return [(rule, size) for rule in some_rules() for size in range(1, {0: 6, 1: 5, 2: 4}[rule.rests])]


class OneStandTest(unittest.TestCase):

    def test_ways_and_circles(self):
        for rule, size in small_sizes():
            for text in plain_stands(rule, size):
                way, circle = plain_path(rule, text)
                self.assertEqual(way_in(rule, text), way)
                self.assertEqual(circle_of(rule, text), turned_about(circle))

    def test_eight_seats(self):
        for rule, text in ((WAVE, "00120120"), (WAVE, "10000000"), (Rule("0110", 0), "10000001"),
                           (Rule("0111", 2), "00123000"), (Rule("1001", 2), "01230120")):
            way, circle = plain_path(rule, text)
            self.assertEqual(way_in(rule, text), way)
            self.assertEqual(circle_of(rule, text), turned_about(circle))

    def test_a_stand_of_a_circle_has_no_way(self):
        self.assertEqual(way_in(WAVE, "120"), [])
        self.assertEqual(circle_of(WAVE, "120"), ["012", "120", "201"])
        self.assertEqual((way_in(WAVE, "0"), circle_of(WAVE, "0")), ([], ["0"]))

    def test_new_lists(self):
        way_in(WAVE, "100").append("x")
        circle_of(WAVE, "100").append("x")
        self.assertEqual((way_in(WAVE, "100"), circle_of(WAVE, "100")), (["100", "211", "022"], ["000"]))


class IsCircleTest(unittest.TestCase):

    def test_begun_at_any_stand(self):
        for rule, size in small_sizes():
            for circle in circles_of(rule, size):
                for at in range(len(circle)):
                    self.assertIs(is_circle(rule, circle[at:] + circle[:at]), True)

    def test_circles_of_one_stand(self):
        self.assertIs(is_circle(WAVE, ["0"]), True)
        self.assertIs(is_circle(WAVE, ["0" * 40]), True)
        self.assertIs(is_circle(WAVE, ["1"]), False)
        self.assertIs(is_circle(Rule("1000"), ["0"]), False)
        self.assertIs(is_circle(Rule("1000"), ["0", "1", "2"]), True)

    def test_stands_that_come_twice(self):
        for again in (["0", "0"], ["012", "201", "120"] * 2, ["012", "201", "120", "012"], ["021", "210", "021"]):
            self.assertIs(is_circle(WAVE, again), False)

    def test_no_circles(self):
        circle = ["012", "120", "201"]
        self.assertIs(is_circle(WAVE, circle), True)
        self.assertEqual(circle, ["012", "120", "201"])
        for thing in (["012", "201", "120"], circle[:2], circle[::-1], tuple(circle), {text: 1 for text in circle}, [circle],
                      ["012", "120", 201], ["012", "120", None], ["012", "120", ""], ["012", "120", "20"], "012", [""], [],
                      ["000", "012", "120", "201"], ["000", "000"], ["0", "00"], ["3"], ["0x0"], ["100", "211", "022", "000"],
                      [["012"], ["120"], ["201"]], [("0",)], [b"0"], ["000 "], [0], [True], ["\n"]):
            self.assertIs(is_circle(WAVE, thing), False, thing)

    def test_any_value(self):
        for value in strange_values():
            self.assertIs(is_circle(WAVE, value), False, value)
            self.assertIs(is_circle(WAVE, [value]), value == "0")
            self.assertIs(is_circle(WAVE, ["012", "120", value]), False)

    def test_signs_of_the_rule_alone(self):
        self.assertIs(is_circle(Rule("1000", 0), ["0", "1"]), True)
        self.assertIs(is_circle(Rule("1000", 0), ["0", "1", "2"]), False)
        self.assertIs(is_circle(Rule("1000", 2), ["3", "0", "1", "2"]), True)
        self.assertIs(is_circle(Rule("1000", 1), ["3", "0", "1", "2"]), False)


class AllStandsTest(unittest.TestCase):

    def check(self, rule, size):
        stands = plain_stands(rule, size)
        paths = {text: plain_path(rule, text) for text in stands}
        circles = [path for text in stands for way, path in [paths[text]] if not way and text == min(path)]
        self.assertEqual(circles_of(rule, size), circles)
        lengths = [len(circle) for circle in circles]
        periods = {length: lengths.count(length) for length in sorted(set(lengths))}
        self.assertEqual(list(periods_of(rule, size).items()), list(periods.items()))
        ends = [min(paths[text][1]) for text in stands]
        come = {circle[0]: ends.count(circle[0]) for circle in circles}
        self.assertEqual(list(many_that_come(rule, size).items()), list(come.items()))
        most = max(len(way) for way, _ in paths.values())
        first = next(text for text in stands if len(paths[text][0]) == most)
        self.assertEqual(longest_way(rule, size), (most, first))
        for early in (0, 1, most, most + 1):
            for period in sorted(set(lengths)) + [0, 99]:
                wanted = [text for text in stands
                          if (len(paths[text][0]), len(paths[text][1])) == (early, period)]
                self.assertEqual(stands_with_fate(rule, size, early, period), wanted)
        apart = []
        for circle in circles:
            turns = [turned_about([plain_turn(text, p) for text in circle]) for p in range(size)]
            if not any(turn in apart for turn in turns):
                apart.append(circle)
        self.assertEqual(circles_apart(rule, size), apart)

    def test_small_sizes(self):
        for rule, size in small_sizes():
            self.check(rule, size)

    def test_greatest_sizes(self):
        for rule, size in ((Rule("0110", 0), 7), (Rule("1001", 0), 7), (WAVE, 5), (Rule("1010"), 5),
                           (Rule("0111", 2), 4), (Rule("1101", 2), 4)):
            self.check(rule, size)

    def test_circles_that_are_one_by_turning(self):
        every = circles_of(Rule("1111", 0), 3)
        self.assertEqual(every, [["000", "111"], ["001", "110"], ["010", "101"], ["011", "100"]])
        self.assertEqual(circles_apart(Rule("1111", 0), 3), [["000", "111"], ["001", "110"]])
        # All stands of a circle are turned alike: mirrored ones stay apart.
        self.assertEqual(circles_apart(WAVE, 3), [["000"], ["012", "120", "201"], ["021", "102", "210"]])

    def test_stands_with_fate(self):
        self.assertEqual(stands_with_fate(WAVE, 3, 0, 3), ["012", "021", "102", "120", "201", "210"])
        self.assertEqual(stands_with_fate(WAVE, 3, 3, 1), ["001", "010", "011", "100", "101", "110"])
        self.assertEqual(stands_with_fate(WAVE, 3, 0, 2), [])

    def test_new_values(self):
        circles_of(WAVE, 3)[0].append("x")
        circles_apart(WAVE, 3)[0].append("x")
        periods_of(WAVE, 3).clear()
        many_that_come(WAVE, 3).clear()
        self.assertEqual(circles_of(WAVE, 3)[0], ["000"])
        self.assertEqual(circles_apart(WAVE, 3)[0], ["000"])
        self.assertEqual(periods_of(WAVE, 3), {1: 1, 3: 2})
        self.assertEqual(many_that_come(WAVE, 3), {"000": 21, "012": 3, "021": 3})


if __name__ == "__main__":
    unittest.main()
