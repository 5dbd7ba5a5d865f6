"""[21] kinds."""

import unittest

from standwaves.kinds import are_different, is_count, is_integer, is_number, is_row, is_stand, is_table
from tests.plain import strange_values


class KindsTest(unittest.TestCase):

    def held(self, asked, *more):
        """Returns what of some values is what asked tells, and that only truths are told."""
        values = strange_values()
        answers = [asked(value, *more) for value in values]
        for answer in answers:
            self.assertIn(answer, [True, False])
            self.assertIsInstance(answer, bool)
        return [value for value, answer in zip(values, answers) if answer]

    def test_integers(self):
        self.assertEqual(self.held(is_integer), [0, 1, -1, 10 ** 999, -10 ** 40])
        self.assertFalse(is_integer(True))
        self.assertFalse(is_integer(False))

    def test_counts(self):
        self.assertEqual(self.held(is_count), [0, 1, 10 ** 999])
        self.assertFalse(is_count(False))
        self.assertTrue(is_count(0))
        self.assertFalse(is_count(-1))

    def test_numbers(self):
        self.assertEqual(self.held(is_number), [1, 10 ** 999])
        self.assertFalse(is_number(True))
        self.assertFalse(is_number(0))

    def test_tables(self):
        self.assertEqual(self.held(is_table), ["0111"])
        for table in ["0000", "1111", "1010"]:
            self.assertIs(is_table(table), True)
        for table in ["", "011", "01110", "0121", "011 ", " 011", "011\n", b"0111", ["0", "1", "1", "1"]]:
            self.assertIs(is_table(table), False, table)

    def test_rows(self):
        self.assertEqual(self.held(is_row, "01"), ["", "0", "0111"])
        self.assertIs(is_row("", ""), True)
        self.assertIs(is_row("0", ""), False)
        self.assertIs(is_row("0210", "012"), True)
        self.assertIs(is_row("0310", "012"), False)
        self.assertIs(is_row("ba", "ab"), True)
        self.assertIs(is_row(["0", "1"], "01"), False)
        self.assertIs(is_row(("0", "1"), "01"), False)
        self.assertIs(is_row(b"01", "01"), False)

    def test_stands(self):
        self.assertEqual(self.held(is_stand, "012"), ["0", "0111", "012"])
        self.assertIs(is_stand("", "012"), False)
        self.assertIs(is_stand("", ""), False)
        self.assertIs(is_stand("3", "012"), False)
        self.assertIs(is_stand(["0"], "01"), False)

    def test_different_integers(self):
        self.assertEqual(self.held(are_different, 0, 9), [[], (), [1, 2]])
        for thing in ([3, 8], (8, 3), [5], (3,)):
            self.assertIs(are_different(thing, 3, 9), True)
        for thing in ([2], [9], [3, 3], (3, 4, 3), [True], [3, False], ["3"], [[3]], {3}, {3: 3}, "3", 3, [10 ** 999]):
            self.assertIs(are_different(thing, 1 if thing == [True] else 3, 9), False, thing)

    def test_values_are_not_changed(self):
        thing = ["0", ["1"]]
        for asked in (is_integer, is_count, is_number, is_table):
            asked(thing)
        is_row(thing, "01")
        is_stand(thing, "01")
        self.assertEqual(thing, ["0", ["1"]])


if __name__ == "__main__":
    unittest.main()
