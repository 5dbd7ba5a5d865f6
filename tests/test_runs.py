"""[31] runs."""

import unittest

from standwaves.rules import Rule
from standwaves.runs import (
    after, fate_of, late_after, path_of, row_after, standers, still_from, turning_fate)
from tests.plain import plain_after, plain_stands, plain_turn, some_rules

WAVE = Rule("0111")


def small_cases():
    """Returns tuples (rule, text): all stands of up to three seats, and some of up to eight."""
    cases = [(rule, text) for rule in some_rules() for size in (1, 2, 3)
             for text in plain_stands(rule, size)]
    for rule in some_rules():
        last = rule.signs[-1]
        cases += [(rule, text) for text in
                  ["1000", "0" + last + "10", "01" + last + "00", "0010" + last + "1", "1000" * 2,
                   "0110100", "01" + last + "10" + last + "00"]]
    return cases


def plain_path(rule, text, most):
    """Returns the stands from one on, as many as asked for."""
    stands = [text]
    for _ in range(most - 1):
        stands.append(plain_after(rule, stands[-1], 1))
    return stands


def plain_fate(rule, text):
    """Returns the least (early, period), looked for among all."""
    path = plain_path(rule, text, 1)
    while path[-1] not in path[:-1]:
        path.append(plain_after(rule, path[-1], 1))
    return min((early, late - early) for late in range(len(path)) for early in range(late)
               if path[early] == path[late])


class BeatsTest(unittest.TestCase):

    def test_after(self):
        for rule, text in small_cases():
            for many in (0, 1, 2, 5):
                self.assertEqual(after(rule, text, many), plain_after(rule, text, many))

    def test_none_beats(self):
        for text in ["1", "01", "0120"]:
            self.assertEqual(after(WAVE, text, 0), text)
            self.assertEqual(late_after(WAVE, text, 0), text)
            self.assertEqual(row_after(WAVE, text, 0), text)
            self.assertEqual(standers(WAVE, text, 0), [text.count("1")])

    def test_many_beats_of_many_seats(self):
        text = "0120" * 10
        self.assertEqual(after(WAVE, text, 400), plain_after(WAVE, text, 400))
        self.assertEqual(after(Rule("0110", 0), "1" + "0" * 39, 400),
                         plain_after(Rule("0110", 0), "1" + "0" * 39, 400))

    def test_row_after(self):
        for rule in some_rules():
            row = "0121001201201"[:9] if rule.rests else "010011011"
            for size in range(10):
                for many in range(6):
                    told = row[:size]
                    for _ in range(many):
                        told = "".join(rule(*told[at - 1:at + 2]) for at in range(1, len(told) - 1))
                    self.assertEqual(row_after(rule, row[:size], many), told)

    def test_rows_too_short_for_the_beats(self):
        self.assertEqual(row_after(WAVE, "010", 1), "2")
        for row, many in [("", 0), ("", 1), ("", 400), ("0", 1), ("01", 1), ("010", 2), ("0100", 2),
                          ("1" * 40, 20), ("1" * 40, 400)]:
            self.assertEqual(row_after(WAVE, row, many), "")
        self.assertEqual(len(row_after(WAVE, "1" * 40, 19)), 2)

    def test_late_after(self):
        for rule, text in small_cases():
            for many in (0, 1, 2, 3, 4, 7, 20, 31):
                self.assertEqual(late_after(rule, text, many), plain_after(rule, text, many))

    def test_late_after_any_number(self):
        self.assertEqual(late_after(WAVE, "012", 3 * 10 ** 39), "012")
        self.assertEqual(late_after(WAVE, "012", 3 * 10 ** 39 + 1), "120")
        self.assertEqual(late_after(WAVE, "100", 10 ** 40 - 1), "000")
        self.assertEqual(late_after(Rule("1111", 0), "0", 10 ** 39 + 1), "1")
        for rule, text in small_cases():
            early, period = plain_fate(rule, text)
            many = early + period * 10 ** 30 + 1
            self.assertEqual(late_after(rule, text, many), plain_after(rule, text, early + 1))

    def test_standers(self):
        for rule, text in small_cases():
            told = [stand.count("1") for stand in plain_path(rule, text, 6)]
            self.assertEqual(standers(rule, text, 5), told)


class FateTest(unittest.TestCase):

    def test_path_of(self):
        for rule, text in small_cases():
            early, period = plain_fate(rule, text)
            self.assertEqual(path_of(rule, text), plain_path(rule, text, early + period))
        self.assertEqual(path_of(WAVE, "0"), ["0"])
        self.assertEqual(path_of(WAVE, "012"), ["012", "120", "201"])

    def test_path_is_new(self):
        path_of(WAVE, "100").clear()
        self.assertEqual(len(path_of(WAVE, "100")), 4)

    def test_fate_of(self):
        for rule, text in small_cases():
            self.assertEqual(fate_of(rule, text), plain_fate(rule, text))
        self.assertEqual(fate_of(WAVE, "0"), (0, 1))
        self.assertEqual(fate_of(WAVE, "1"), (2, 1))
        self.assertEqual(fate_of(WAVE, "01"), (3, 1))
        self.assertEqual(fate_of(Rule("1000"), "0"), (0, 3))

    def test_turning_fate(self):
        for rule, text in small_cases():
            early, period = plain_fate(rule, text)
            path = plain_path(rule, text, early + 2 * period + 1)
            told = min((first, late - first, places)
                       for late in range(early + period + 1) for first in range(late)
                       for places in range(len(text))
                       if plain_turn(path[first], places) == path[late])
            self.assertEqual(turning_fate(rule, text), told, (rule.table, rule.rests, text))
        self.assertEqual(turning_fate(WAVE, "0"), (0, 1, 0))
        self.assertEqual(turning_fate(WAVE, "021"), (0, 1, 1))
        self.assertEqual(turning_fate(WAVE, "012012"), (0, 1, 2))

    def test_turned_it_may_come_again_in_fewer_beats(self):
        self.assertEqual(fate_of(WAVE, "0112"), (2, 4))
        self.assertEqual(turning_fate(WAVE, "0112"), (2, 1, 3))
        self.assertEqual(turning_fate(WAVE, "1021"), (2, 1, 1))
        self.assertEqual(turning_fate(WAVE, "0122"), (1, 1, 3))

    def test_still_from(self):
        for rule, text in small_cases():
            early, period = plain_fate(rule, text)
            path = plain_path(rule, text, early + period)
            told = [beat for beat, stand in enumerate(path)
                    if set(stand) == {"0"} and rule.table[0] == "0"]
            self.assertEqual(still_from(rule, text), told[0] if told else None)
        self.assertEqual(still_from(WAVE, "000"), 0)
        self.assertEqual(still_from(WAVE, "1"), 2)
        self.assertEqual(still_from(Rule("0000", 2), "01"), 3)
        self.assertEqual(still_from(Rule("0000", 0), "01"), 1)

    def test_never_still(self):
        self.assertIsNone(still_from(WAVE, "012"))
        self.assertIsNone(still_from(Rule("1000"), "000"))
        self.assertIsNone(still_from(Rule("1111", 0), "0"))
        self.assertIsNone(still_from(Rule("1000", 2), "000"))

    def test_tuples_and_lists(self):
        self.assertIsInstance(fate_of(WAVE, "100"), tuple)
        self.assertIsInstance(turning_fate(WAVE, "100"), tuple)
        self.assertIsInstance(path_of(WAVE, "100"), list)
        self.assertIsInstance(standers(WAVE, "100", 2), list)


if __name__ == "__main__":
    unittest.main()
