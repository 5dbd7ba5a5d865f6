"""[32] spread."""

import unittest

from standwaves.rules import Rule
from standwaves.runs import row_after
from standwaves.spread import (
    all_heal, apart_pair, changed_seat, healed_after, matters_after, scar_of, spread_of, unlike_seats)
from tests.plain import plain_after, plain_stands, some_rules

WAVE = Rule("0111")


def plain_pairs(rule, many, d):
    """Returns all tuples of two rows, the lesser one first, that show that d matters."""
    rows = plain_stands(rule, 2 * many + 1)
    middles = {row: row_after(rule, row, many) for row in rows}
    at = many + d
    return [(row, other) for row in rows for sign in rule.signs
            for other in [row[:at] + sign + row[at + 1:]]
            if row < other and middles[row] != middles[other]]


def many_for(rule):
    """Returns the beats for which all rows are looked through."""
    return {0: (1, 2, 3), 1: (1, 2), 2: (1,)}[rule.rests]


def plain_healed(rule, text, seat, sign, most):
    """Returns after how many beats, at most so many, the stands are one, None if they are not."""
    other = text[:seat] + sign + text[seat + 1:]
    for beat in range(most + 1):
        if plain_after(rule, text, beat) == plain_after(rule, other, beat):
            return beat
    return None


class MattersTest(unittest.TestCase):

    def test_all_pairs(self):
        for rule in some_rules():
            for many in many_for(rule):
                pairs = {d: plain_pairs(rule, many, d) for d in range(-many, many + 1)}
                self.assertEqual(matters_after(rule, many), [d for d in pairs if pairs[d]])
                for d in pairs:
                    self.assertEqual(apart_pair(rule, many, d), min(pairs[d]) if pairs[d] else None)

    def test_one_side(self):
        self.assertEqual(matters_after(Rule("0011", 0), 1), [-1, 0])
        self.assertEqual(matters_after(Rule("0101", 0), 1), [0, 1])
        self.assertEqual(apart_pair(Rule("0011", 0), 1, -1), ("000", "100"))
        self.assertIsNone(apart_pair(Rule("0011", 0), 1, 1))
        self.assertEqual(apart_pair(Rule("0101", 0), 1, 1), ("000", "001"))

    def test_two_rests(self):
        self.assertEqual(matters_after(Rule("0111", 2), 2), [-2, -1, 0, 1, 2])
        self.assertEqual(matters_after(Rule("0000", 2), 1), [0])
        self.assertEqual(matters_after(Rule("0000", 2), 2), [0])

    def test_nothing_matters(self):
        self.assertEqual(matters_after(Rule("0000"), 2), [])
        self.assertEqual(matters_after(Rule("0000", 0), 1), [])
        for d in range(-2, 3):
            self.assertIsNone(apart_pair(Rule("0000"), 2, d))

    def test_none_beats(self):
        self.assertEqual(apart_pair(WAVE, 0, 0), ("0", "1"))
        self.assertEqual(matters_after(WAVE, 0), [0])

    def test_an_offset_too_far_away_does_not_matter(self):
        self.assertIsNone(apart_pair(WAVE, 1, 2))
        self.assertIsNone(apart_pair(WAVE, 1, -2))

    def test_lists_are_new(self):
        matters_after(WAVE, 1).clear()
        self.assertEqual(matters_after(WAVE, 1), [-1, 0, 1])
        self.assertIsInstance(apart_pair(WAVE, 1, 0), tuple)


class SpreadTest(unittest.TestCase):

    def test_changed_seat(self):
        self.assertEqual(changed_seat("0120", 0, "2"), "2120")
        self.assertEqual(changed_seat("0120", 3, "1"), "0121")
        self.assertEqual(changed_seat("0120", 1, "1"), "0120")
        self.assertEqual(changed_seat("0", 0, "1"), "1")

    def test_unlike_seats(self):
        for rule in some_rules():
            texts = plain_stands(rule, 3)
            for one in texts[::3]:
                for other in texts[::5]:
                    for many in (0, 1, 4):
                        first, second = plain_after(rule, one, many), plain_after(rule, other, many)
                        told = [seat for seat in range(3) if first[seat] != second[seat]]
                        self.assertEqual(unlike_seats(rule, one, other, many), told)
        self.assertEqual(unlike_seats(WAVE, "0", "1", 0), [0])
        self.assertEqual(unlike_seats(WAVE, "01", "01", 5), [])

    def test_spread_of(self):
        for rule in some_rules():
            for text in plain_stands(rule, 2) + ["0100110", "1000000"]:
                for seat in range(len(text)):
                    for sign in rule.signs:
                        other = text[:seat] + sign + text[seat + 1:]
                        told = []
                        for beat in range(5):
                            first, second = plain_after(rule, text, beat), plain_after(rule, other, beat)
                            told.append(sum(a != b for a, b in zip(first, second)))
                        self.assertEqual(spread_of(rule, text, seat, sign, 4), told)

    def test_spread_of_none_beats_and_of_its_own_sign(self):
        self.assertEqual(spread_of(WAVE, "00000", 2, "1", 0), [1])
        self.assertEqual(spread_of(WAVE, "01200", 2, "2", 3), [0, 0, 0, 0])

    def test_spread_round_forty_seats(self):
        told = spread_of(WAVE, "0" * 40, 39, "1", 5)
        self.assertEqual(told, [1, 3, 4, 4, 4, 4])


class HealingTest(unittest.TestCase):

    def test_healed_after(self):
        for rule in some_rules():
            for size in (1, 2, 3):
                for text in plain_stands(rule, size):
                    for seat in range(size):
                        for sign in rule.signs:
                            told = plain_healed(rule, text, seat, sign, 12)
                            self.assertEqual(healed_after(rule, text, seat, sign), told)

    def test_eight_seats(self):
        self.assertEqual(healed_after(WAVE, "00000000", 3, "1"), 6)
        self.assertEqual(healed_after(WAVE, "01200000", 2, "1"), None)
        for rule in some_rules():
            told = plain_healed(rule, "01001101", 4, "0", 60)
            self.assertEqual(healed_after(rule, "01001101", 4, "0"), told)

    def test_its_own_sign_is_healed_at_once(self):
        self.assertEqual(healed_after(WAVE, "012", 1, "1"), 0)

    def test_never(self):
        self.assertIsNone(healed_after(WAVE, "012", 0, "1"))
        self.assertIsNone(healed_after(Rule("1111", 0), "0", 0, "1"))

    def test_stands_that_come_again_shifted_in_time_are_not_one(self):
        rule = Rule("1000", 2)
        self.assertIsNone(healed_after(rule, "0", 0, "1"))

    def test_scars(self):
        for rests, sizes in [(0, (1, 2, 3, 4)), (1, (1, 2, 3)), (2, (1, 2))]:
            for rule in Rule.all_of(rests):
                for size in sizes:
                    scars = [(text, seat, sign) for text in plain_stands(rule, size)
                             for seat in range(size) for sign in rule.signs
                             if plain_healed(rule, text, seat, sign, 20) is None]
                    self.assertEqual(scar_of(rule, size), min(scars) if scars else None)
                    self.assertIs(all_heal(rule, size), not scars)

    def test_the_greatest_sizes(self):
        self.assertIs(all_heal(Rule("0000"), 4), True)
        self.assertIsNone(scar_of(Rule("0000", 2), 3))
        self.assertIs(all_heal(WAVE, 4), False)
        self.assertEqual(scar_of(WAVE, 4), ("0001", 0, "2"))


if __name__ == "__main__":
    unittest.main()
