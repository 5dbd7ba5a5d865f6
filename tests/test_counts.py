"""[60] counts."""

import unittest

from standwaves.counts import counts_to, many_alive, many_shapes, many_turns, nth_shape, shape_number
from standwaves.errors import NoNumber
from standwaves.rules import Rule
from standwaves.shapes import is_shape, shapes_of
from standwaves.stands import least_turn
from tests.plain import plain_after, plain_stands, plain_turn, some_rules, strange_values

WAVE = Rule("0111")


def plain_shapes(rule, p, q, size):
    """Returns all shapes (p, q) of one size, each stand looked at."""
    return [text for text in plain_stands(rule, size)
            if plain_after(rule, text, q) == plain_turn(text, p)]


def some_kinds():
    """Returns tuples (rule, p, q, size) of which each stand can be looked at."""
    kinds = []
    for rule in some_rules():
        for q in range(1, {0: 4, 1: 3, 2: 2}[rule.rests]):
            for p in range(-q, q + 1):
                kinds += [(rule, p, q, size) for size in range(1, {0: 7, 1: 5, 2: 5}[rule.rests])]
    return kinds


class CountsTest(unittest.TestCase):

    def test_small_counts(self):
        for rule, p, q, size in some_kinds():
            shapes = plain_shapes(rule, p, q, size)
            self.assertEqual(many_shapes(rule, p, q, size), len(shapes))
            self.assertEqual(many_alive(rule, p, q, size), len([text for text in shapes if set(text) != {"0"}]))
            self.assertEqual(many_turns(rule, p, q, size), len({least_turn(text) for text in shapes}))
            told = [len(plain_shapes(rule, p, q, less)) for less in range(1, size + 1)] if size < 4 else None
            if told is not None:
                self.assertEqual(counts_to(rule, p, q, size), told)

    def test_counts_of_great_sizes(self):
        # Each stand comes again after two beats, and all of them are counted.
        flip = Rule("1111", 0)
        for size in (1, 2, 30, 40):
            self.assertEqual(many_shapes(flip, 0, 2, size), 2 ** size)
            self.assertEqual(many_alive(flip, 0, 2, size), 2 ** size - 1)
        self.assertEqual(counts_to(flip, 0, 2, 30), [2 ** size for size in range(1, 31)])
        turns = Rule("1111", 1)
        self.assertEqual(many_shapes(turns, 0, 3, 5), 3 ** 5)
        self.assertEqual(many_shapes(turns, 0, 3, 30), 3 ** 30)

    def test_counts_by_a_sum_of_two_ahead(self):
        # Rings of pieces "0" and "021": the numbers go by those one and three sizes less.
        numbers = counts_to(WAVE, 1, 1, 30)
        self.assertEqual(numbers[:4], [1, 1, 4, 5])
        for size in range(3, 30):
            self.assertEqual(numbers[size], numbers[size - 1] + numbers[size - 3])
        for size in (20, 29, 30):
            self.assertEqual(many_shapes(WAVE, 1, 1, size), numbers[size - 1])
            self.assertEqual(many_alive(WAVE, 1, 1, size), numbers[size - 1] - 1)
        self.assertEqual(len(shapes_of(WAVE, 1, 1, 18)), numbers[17])

    def test_turned_stands_counted_as_one(self):
        # Rings of beads of two colours: 1, 2, .. beads, and thirty of them.
        flip = Rule("1111", 0)
        self.assertEqual([many_turns(flip, 0, 2, size) for size in range(1, 9)], [2, 3, 4, 6, 8, 14, 20, 36])
        self.assertEqual(many_turns(flip, 0, 2, 30), 35792568)
        self.assertEqual(many_turns(flip, 0, 2, 12), 352)
        self.assertEqual(many_turns(WAVE, 1, 1, 12), len({least_turn(text) for text in shapes_of(WAVE, 1, 1, 12)}))

    def test_stands_that_all_sit(self):
        self.assertEqual([many_shapes(WAVE, 0, 1, 7), many_alive(WAVE, 0, 1, 7), many_turns(WAVE, 0, 1, 7)], [1, 0, 1])
        first = Rule("1000")
        self.assertEqual([many_shapes(first, 0, 1, 7), many_alive(first, 0, 1, 7), many_turns(first, 0, 1, 7)], [0, 0, 0])
        self.assertEqual(counts_to(first, 0, 1, 4), [0, 0, 0, 0])

    def test_a_new_list_each_time(self):
        counts_to(WAVE, 1, 1, 4).append(9)
        self.assertEqual(counts_to(WAVE, 1, 1, 4), [1, 1, 4, 5])


class NumbersTest(unittest.TestCase):

    def test_all_numbers(self):
        for rule, p, q, size in some_kinds():
            shapes = plain_shapes(rule, p, q, size)
            for number, text in list(enumerate(shapes))[:12]:
                self.assertEqual(nth_shape(rule, p, q, size, number), text)
                self.assertEqual(shape_number(rule, p, q, text), number)
            with self.assertRaises(NoNumber):
                nth_shape(rule, p, q, size, len(shapes))

    def test_no_shapes(self):
        for rule, p, q, size in some_kinds():
            if size < 4:
                for text in plain_stands(rule, size):
                    told = shape_number(rule, p, q, text)
                    self.assertIs(told is not None, is_shape(rule, text, p, q))
        self.assertIsNone(shape_number(WAVE, -1, 1, "0021"))

    def test_great_numbers(self):
        flip = Rule("1111", 0)
        for number in (0, 1, 2 ** 29, 2 ** 30 - 1, 123456789):
            text = f"{number:030b}"
            self.assertEqual(nth_shape(flip, 0, 2, 30, number), text)
            self.assertEqual(shape_number(flip, 0, 2, text), number)
        self.assertEqual(shape_number(flip, 0, 2, "10" * 20), int("10" * 20, 2))
        many = many_shapes(WAVE, 1, 1, 20)
        numbers = [shape_number(WAVE, 1, 1, nth_shape(WAVE, 1, 1, 20, number)) for number in range(many)]
        self.assertEqual(numbers, list(range(many)))

    def test_no_number(self):
        many = many_shapes(WAVE, 1, 1, 4)
        for value in strange_values() + [many, many + 1, -1, -many, 10 ** 39, "1", [0], (1,), b"1"]:
            if not (type(value) is int and 0 <= value < many):
                with self.assertRaises(NoNumber) as caught:
                    nth_shape(WAVE, 1, 1, 4, value)
                self.assertIs(caught.exception.number, value)
                self.assertIs(type(caught.exception), NoNumber)
        self.assertEqual(nth_shape(WAVE, 1, 1, 4, many - 1), "2100")
        with self.assertRaises(NoNumber):
            nth_shape(Rule("1000"), 0, 1, 5, 0)


if __name__ == "__main__":
    unittest.main()
