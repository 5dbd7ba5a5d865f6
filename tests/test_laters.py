"""laters: what all stands become, as numbers."""

import unittest

from standwaves.laters import later_numbers, numbers_after
from standwaves.rules import Rule
from tests.plain import plain_after, plain_beat, plain_stands


def small_sizes():
    """Returns tuples (rule, size), all tables among them."""
    return [(rule, size) for rests in range(3) for rule in Rule.all_of(rests)
            for size in range(1, {0: 7, 1: 5, 2: 4}[rests])]


class LatersTest(unittest.TestCase):

    def test_all_stands(self):
        for rule, size in small_sizes():
            stands = plain_stands(rule, size)
            wanted = [stands.index(plain_beat(rule.table, rule.rests, text)) for text in stands]
            self.assertEqual(later_numbers(rule, size), wanted)

    def test_greater_ones(self):
        for rule, size in ((Rule("0111"), 6), (Rule("0011", 2), 5), (Rule("1101", 0), 9)):
            stands = plain_stands(rule, size)
            told = [stands[number] for number in later_numbers(rule, size)]
            self.assertEqual(told, [plain_beat(rule.table, rule.rests, text) for text in stands])

    def test_many_beats(self):
        for rule, size in ((Rule("0111"), 3), (Rule("0010"), 4), (Rule("0111", 2), 3), (Rule("1001", 0), 5)):
            stands = plain_stands(rule, size)
            for many in (0, 1, 2, 5):
                told = [stands[number] for number in numbers_after(rule, size, many)]
                self.assertEqual(told, [plain_after(rule, text, many) for text in stands])


if __name__ == "__main__":
    unittest.main()
