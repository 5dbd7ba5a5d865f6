"""[41] shapes."""

import unittest

from standwaves.rules import Rule
from standwaves.shapes import is_basic, is_shape, least_shape, paces, shapes_of
from tests.plain import plain_after, plain_stands, plain_turn, some_rules

WAVE = Rule("0111")


def plain_shapes(rule, p, q, size):
    """Returns all shapes (p, q) of one size, each stand looked at."""
    return [text for text in plain_stands(rule, size)
            if plain_after(rule, text, q) == plain_turn(text, p)]


def most_beats(rule):
    """Returns the greatest q at which shapes are told."""
    return {0: 3, 1: 2, 2: 1}[rule.rests]


class OneShapeTest(unittest.TestCase):

    def test_is_shape(self):
        for rule in some_rules():
            for size in (1, 2, 3):
                for text in plain_stands(rule, size):
                    for q in (1, 2, 5):
                        later = plain_after(rule, text, q)
                        for p in range(-4, 5):
                            told = later == plain_turn(text, p)
                            self.assertIs(is_shape(rule, text, p, q), told)

    def test_p_of_any_length(self):
        self.assertIs(is_shape(WAVE, "021", 3 * 10 ** 39 + 1, 1), True)
        self.assertIs(is_shape(WAVE, "021", -3 * 10 ** 39 - 2, 1), True)
        self.assertIs(is_shape(WAVE, "021", 3 * 10 ** 39, 1), False)
        self.assertIs(is_basic(WAVE, "021", 3 * 10 ** 39 + 1, 1), True)
        self.assertIs(is_shape(WAVE, "0", -10 ** 40, 60), True)

    def test_q_of_sixty(self):
        self.assertIs(is_shape(WAVE, "021" * 13 + "0", 60, 60), True)
        self.assertIs(is_shape(WAVE, "021" * 13 + "0", 59, 60), False)
        self.assertIs(is_shape(WAVE, "0" * 37 + "012", -60, 60), True)
        self.assertIs(is_shape(Rule("0110", 0), "1" + "0" * 6, 0, 60), False)
        self.assertIs(is_basic(WAVE, "021", 60, 60), False)

    def test_stands_that_all_sit(self):
        for size in (1, 2, 40):
            self.assertIs(is_shape(WAVE, "0" * size, 7, 3), True)
            self.assertIs(is_shape(Rule("1000"), "0" * size, 7, 1), False)
            self.assertIs(is_shape(Rule("1000"), "0" * size, 7, 3), True)
            self.assertIs(is_basic(Rule("1000"), "0" * size, 7, 3), True)

    def test_paces(self):
        for rule in some_rules():
            for size in (1, 2, 3):
                for text in plain_stands(rule, size) + ["0010", "010010"]:
                    told = [(q, p) for q in range(1, 7) for p in range(len(text))
                            if plain_after(rule, text, q) == plain_turn(text, p)]
                    self.assertEqual(paces(rule, text, 6), told)

    def test_paces_up_to_sixty(self):
        told = paces(WAVE, "0210", 60)
        self.assertEqual(told, [(q, q % 4) for q in range(1, 61)])
        self.assertEqual(paces(WAVE, "100", 60), [])
        self.assertEqual(paces(WAVE, "00", 2), [(1, 0), (1, 1), (2, 0), (2, 1)])
        self.assertIsInstance(told, list)
        self.assertIsInstance(told[0], tuple)

    def test_is_basic(self):
        for rule in some_rules():
            for text in plain_stands(rule, 3) + ["0", "01", "0010", "0101", "0011"]:
                size = len(text)
                for q in range(1, 6):
                    less = any(plain_after(rule, text, s) == plain_turn(text, r)
                               for s in range(1, q) for r in range(size))
                    for p in range(-1, 3):
                        told = plain_after(rule, text, q) == plain_turn(text, p) and not less
                        self.assertIs(is_basic(rule, text, p, q), told)

    def test_is_basic_of_more_beats(self):
        self.assertIs(is_basic(Rule("1111", 0), "001", 0, 2), True)
        self.assertIs(is_basic(Rule("1111", 0), "001", 0, 4), False)
        self.assertIs(is_basic(Rule("1111", 0), "01", 1, 1), True)
        self.assertIs(is_basic(Rule("1111", 0), "01", 0, 2), False)
        self.assertIs(is_basic(Rule("1111", 0), "001", 1, 2), False)


class AllShapesTest(unittest.TestCase):

    def test_small_sizes(self):
        for rule in some_rules():
            for q in range(1, most_beats(rule) + 1):
                for p in range(-q, q + 1):
                    for size in range(1, {0: 8, 1: 6, 2: 5}[rule.rests]):
                        shapes = plain_shapes(rule, p, q, size)
                        alive = [text for text in shapes if set(text) != {"0"}]
                        self.assertEqual(shapes_of(rule, p, q, size), shapes)
                        self.assertEqual(least_shape(rule, p, q, size), alive[0] if alive else None)

    def test_fewer_seats_than_a_window(self):
        self.assertEqual(shapes_of(WAVE, 0, 2, 1), ["0"])
        self.assertEqual(shapes_of(WAVE, 2, 2, 3), plain_shapes(WAVE, 2, 2, 3))
        self.assertEqual(shapes_of(Rule("1111", 0), 3, 3, 1), [])
        self.assertEqual(shapes_of(Rule("1111", 0), 1, 3, 2), ["01", "10"])

    def test_greater_sizes(self):
        self.assertEqual(shapes_of(WAVE, 0, 1, 20), ["0" * 20])
        told = shapes_of(WAVE, 1, 1, 20)
        self.assertEqual(told, sorted(set(told)))
        self.assertEqual(len(told), self.counted(20))
        for text in told[::37]:
            self.assertEqual(plain_after(WAVE, text, 1), plain_turn(text, 1))
        self.assertEqual(least_shape(WAVE, 1, 1, 20), "0" * 17 + "021")
        self.assertEqual(least_shape(WAVE, -1, 1, 20), "0" * 17 + "012")
        self.assertEqual(least_shape(Rule("0111", 2), 1, 1, 20), "0" * 16 + "0321")

    def counted(self, size):
        """Returns how many rings are written with "0" and "021": as walks of 1 or 3 steps."""
        lines = [1, 1, 1]
        while len(lines) <= size:
            lines.append(lines[-1] + lines[-3])
        # Seat 0 is one of the three of a "021", or a "0" by itself.
        return lines[size - 1] + 3 * lines[size - 3]

    def test_the_greatest_sizes_without_rests(self):
        rule = Rule("0010", 0)
        told = shapes_of(rule, -2, 2, 30)
        self.assertEqual(told, ["0" * 30])
        self.assertIsNone(least_shape(rule, -2, 2, 30))
        told = shapes_of(rule, -2, 2, 28)
        self.assertEqual(told, ["0" * 28] + ["0001" * 7, "0010" * 7, "0100" * 7, "1000" * 7])
        self.assertEqual(least_shape(rule, -2, 2, 28), "0001" * 7)

    def test_the_least_of_very_many(self):
        self.assertEqual(least_shape(Rule("1111", 0), 0, 2, 30), "0" * 29 + "1")
        self.assertEqual(least_shape(Rule("1111", 0), 1, 1, 30), "01" * 15)
        self.assertIsNone(least_shape(Rule("1111", 0), 1, 1, 29))

    def test_none_at_all(self):
        self.assertEqual(shapes_of(Rule("1111", 0), 0, 1, 5), [])
        self.assertIsNone(least_shape(Rule("1111", 0), 0, 1, 5))
        self.assertIsNone(least_shape(WAVE, 1, 1, 2))

    def test_p_somewhat_beyond_q(self):
        for rule in (WAVE, Rule("0010", 0)):
            for size in range(1, 6):
                for p in (-3, -2, 2, 3):
                    self.assertEqual(shapes_of(rule, p, 1, size), plain_shapes(rule, p, 1, size))

    def test_a_shape_is_not_empty(self):
        self.assertEqual(shapes_of(WAVE, 1, 1, 0), [])
        self.assertIsNone(least_shape(WAVE, 1, 1, 0))

    def test_lists_are_new(self):
        shapes_of(WAVE, 1, 1, 3).clear()
        self.assertEqual(shapes_of(WAVE, 1, 1, 3), ["000", "021", "102", "210"])


if __name__ == "__main__":
    unittest.main()
