"""[91] ends_of_rows."""

import unittest

from standwaves.ends_of_rows import joined_rows, row_beats, row_fate, row_quiet
from standwaves.rules import Rule
from tests.plain import plain_beat, plain_stands, some_rules

WAVE = Rule("0111")


def plain_rows(rule, most):
    """Returns all rows of a rule of at most so many characters."""
    return [""] + [row for size in range(1, most + 1) for row in plain_stands(rule, size)]


def plain_row(rule, row, many):
    """Returns a row after many beats, by rings in which a seat between its ends is put back to sit."""
    for _ in range(many):
        row = plain_beat(rule.table, rule.rests, row + "0")[:-1]
    return row


def plain_fate(rule, row):
    """Returns when a row comes again, and after how many beats."""
    path = []
    while row not in path:
        path.append(row)
        row = plain_row(rule, row, 1)
    return (path.index(row), len(path) - path.index(row))


def plain_quiet(rule, row):
    """Returns the least number of beats after which a row has only "0" and stays so."""
    early, period = plain_fate(rule, row)
    for beats in range(early + period):
        now = plain_row(rule, row, beats)
        if set(now) <= {"0"} and plain_row(rule, now, 1) == now:
            return beats
    return None


def plain_joined(rule, one, other):
    """Returns whether two rows go on as one, looked at for longer than any of them needs to come again."""
    for beats in range(sum(plain_fate(rule, one + other)) + sum(plain_fate(rule, one)) * sum(plain_fate(rule, other))):
        both = plain_row(rule, one, beats) + plain_row(rule, other, beats)
        if plain_row(rule, one + other, beats) != both:
            return False
    return True


class BeatsTest(unittest.TestCase):

    def test_small_rows(self):
        for rule in some_rules():
            for row in plain_rows(rule, 3) + plain_stands(rule, 5)[::37]:
                for many in (0, 1, 2, 9):
                    told = row_beats(rule, row, many)
                    self.assertEqual(told, plain_row(rule, row, many))
                    self.assertEqual(len(told), len(row))

    def test_empty_rows(self):
        for rule in some_rules():
            self.assertEqual([row_beats(rule, "", 0), row_beats(rule, "", 400)], ["", ""])
            self.assertEqual([row_fate(rule, ""), row_quiet(rule, "")], [(0, 1), 0])

    def test_rows_of_one_character(self):
        # Nobody stands beside it: only the first character of the table is asked.
        self.assertEqual([row_beats(WAVE, "1", many) for many in (0, 1, 2, 3)], ["1", "2", "0", "0"])
        self.assertEqual([row_beats(Rule("1000", 0), "0", many) for many in (0, 1, 2)], ["0", "1", "0"])
        self.assertEqual([row_quiet(WAVE, sign) for sign in "012"], [0, 2, 1])
        self.assertEqual([row_quiet(Rule("0111", 0), sign) for sign in "01"], [0, 1])
        self.assertEqual([row_quiet(Rule("0111", 2), sign) for sign in "0123"], [0, 3, 2, 1])
        self.assertEqual([row_fate(Rule("1000"), sign) for sign in "012"], [(0, 3), (0, 3), (0, 3)])
        self.assertIsNone(row_quiet(Rule("1000"), "0"))

    def test_long_rows(self):
        for row in ("012" * 13 + "0", "0" * 39 + "1", "1" + "0" * 39, "120" * 13, "0" * 40):
            for many in (1, 40, 400):
                self.assertEqual(row_beats(WAVE, row, many), plain_row(WAVE, row, many))
            self.assertEqual(row_beats(WAVE, row, 41), "0" * len(row))


class FateTest(unittest.TestCase):

    def test_small_rows(self):
        for rule in some_rules():
            for row in plain_rows(rule, 3) + plain_stands(rule, 5)[::37] + plain_stands(rule, 7)[::1997]:
                self.assertEqual(row_fate(rule, row), plain_fate(rule, row))
                self.assertEqual(row_quiet(rule, row), plain_quiet(rule, row))

    def test_nine_characters(self):
        for rule, row in ((Rule("0110", 0), "100101100"), (Rule("1011", 2), "012300120"), (Rule("0010"), "001200120")):
            self.assertEqual(row_fate(rule, row), plain_fate(rule, row))
            self.assertEqual(row_quiet(rule, row), plain_quiet(rule, row))

    def test_rows_are_quiet_soon(self):
        for row in plain_rows(WAVE, 7) + ["0" * 39 + "1", "012" * 13, "0120" * 10, "1" + "0" * 39]:
            beats = row_quiet(WAVE, row)
            self.assertLessEqual(beats, len(row) + 1)
            self.assertEqual(row_fate(WAVE, row), (beats, 1))
        self.assertEqual(row_quiet(WAVE, "1" + "0" * 39), 41)

    def test_never_quiet(self):
        self.assertIsNone(row_quiet(Rule("0111", 0), "01"))
        self.assertEqual(row_fate(Rule("0111", 0), "01"), (0, 2))
        self.assertIsNone(row_quiet(Rule("1111"), "0"))


class JoinedTest(unittest.TestCase):

    def test_small_rows(self):
        for rule in some_rules():
            rows = plain_rows(rule, 2) + plain_stands(rule, 3)[::5]
            for one in rows:
                for other in rows[::3] + [""]:
                    self.assertIs(joined_rows(rule, one, other), plain_joined(rule, one, other))

    def test_one_is_empty(self):
        for rule in some_rules():
            for row in plain_rows(rule, 3):
                self.assertIs(joined_rows(rule, row, ""), True)
                self.assertIs(joined_rows(rule, "", row), True)

    def test_parted_late(self):
        self.assertIs(joined_rows(WAVE, "0", "1"), False)
        self.assertIs(joined_rows(WAVE, "1000", "0"), False)
        self.assertIs(joined_rows(WAVE, "0" * 19 + "1", "0" * 20), False)
        self.assertIs(joined_rows(WAVE, "1000000", "00"), False)
        self.assertIs(joined_rows(WAVE, "1" + "0" * 37, "00"), False)

    def test_joined_for_ever(self):
        self.assertIs(joined_rows(WAVE, "00", "000"), True)
        self.assertIs(joined_rows(WAVE, "12", "21"), True)
        self.assertIs(joined_rows(WAVE, "1", "1"), True)
        self.assertIs(joined_rows(WAVE, "0" * 19 + "1", "1" + "0" * 19), True)
        self.assertIs(joined_rows(WAVE, "0" * 19 + "1", "2" + "0" * 19), True)
        self.assertIs(joined_rows(Rule("1111", 0), "01", "01"), True)
        # By this table one side alone makes nobody stand up.
        self.assertIs(joined_rows(Rule("0001"), "10", "0"), True)
        self.assertIs(joined_rows(Rule("0001"), "10", "1"), False)


if __name__ == "__main__":
    unittest.main()
