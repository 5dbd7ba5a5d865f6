"""[22] rules."""

import unittest

from standwaves.errors import Wrong
from standwaves.rules import Rule
from tests.plain import plain_beat, plain_stands, some_rules, strange_values


class MakingTest(unittest.TestCase):

    def test_properties(self):
        for rests, signs in [(0, "01"), (1, "012"), (2, "0123")]:
            rule = Rule("0110", rests)
            self.assertEqual([rule.table, rule.rests, rule.signs], ["0110", rests, signs])

    def test_one_rest_if_left_out(self):
        self.assertEqual(Rule("0111").rests, 1)
        self.assertEqual(Rule("0111", rests=2).rests, 2)
        self.assertEqual(Rule(table="0111", rests=0).table, "0111")

    def test_wrong_tables(self):
        for table in strange_values() + ["011", "01111", "0112", "01 1"]:
            if not (isinstance(table, str) and table == "0111"):
                with self.assertRaises(Wrong) as caught:
                    Rule(table)
                self.assertEqual(caught.exception.place, 0)

    def test_wrong_rests(self):
        for rests in strange_values() + [3, 2 + 10 ** 30]:
            if isinstance(rests, bool) or not isinstance(rests, int) or rests not in (0, 1, 2):
                with self.assertRaises(Wrong) as caught:
                    Rule("0111", rests)
                self.assertEqual(caught.exception.place, 1)
                with self.assertRaises(Wrong) as caught:
                    Rule("0111", rests=rests)
                self.assertEqual(caught.exception.place, 1)

    def test_the_first_wrong_one_is_told(self):
        with self.assertRaises(Wrong) as caught:
            Rule("2111", True)
        self.assertEqual(caught.exception.place, 0)
        self.assertIsInstance(caught.exception.place, int)

    def test_equal(self):
        self.assertTrue(Rule("0111") == Rule("0111", 1))
        self.assertFalse(Rule("0111") != Rule("0111", 1))
        self.assertFalse(Rule("0111") == Rule("0111", 2))
        self.assertFalse(Rule("0111") == Rule("0110"))
        self.assertTrue(Rule("0111") != Rule("0110"))

    def test_equal_to_nothing_else(self):
        rule = Rule("0111")
        for value in strange_values():
            self.assertIs(rule == value, False)
            self.assertIs(rule != value, True)


class BeatTest(unittest.TestCase):

    def test_a_seat_by_the_table(self):
        for place in range(4):
            for rests in range(3):
                rule = Rule("0000"[:place] + "1" + "0000"[place + 1:], rests)
                for left in rule.signs:
                    for right in rule.signs:
                        stands = 2 * (left == "1") + (right == "1") == place
                        self.assertEqual(rule(left, "0", right), "1" if stands else "0")

    def test_rests(self):
        for left in "01":
            self.assertEqual(Rule("1111", 0)(left, "1", "1"), "0")
            self.assertEqual(Rule("1111", 1)(left, "1", "1"), "2")
            self.assertEqual(Rule("1111", 1)(left, "2", "1"), "0")
            self.assertEqual(Rule("1111", 2)(left, "1", "1"), "2")
            self.assertEqual(Rule("1111", 2)(left, "2", "1"), "3")
            self.assertEqual(Rule("1111", 2)(left, "3", "1"), "0")

    def test_rings_by_the_definition(self):
        for rests, most in [(0, 6), (1, 4), (2, 3)]:
            for rule in Rule.all_of(rests):
                for size in range(1, most + 1):
                    for text in plain_stands(rule, size):
                        later = plain_beat(rule.table, rests, text)
                        self.assertEqual(rule.ring_after(text), later)
                        self.assertIs(rule.stirs(text), later != text)

    def test_one_seat_is_its_own_neighbour(self):
        self.assertEqual(Rule("1000").ring_after("0"), "1")
        self.assertEqual(Rule("0111").ring_after("0"), "0")
        self.assertEqual(Rule("0111", 0).ring_after("1"), "0")
        self.assertEqual(Rule("0111").ring_after("2"), "0")

    def test_two_seats_have_one_neighbour(self):
        self.assertEqual(Rule("0001").ring_after("01"), "12")
        self.assertEqual(Rule("0110").ring_after("01"), "02")
        self.assertEqual(Rule("0110").ring_after("10"), "20")

    def test_sides(self):
        self.assertEqual(Rule("0010").ring_after("0100"), "0210")
        self.assertEqual(Rule("0100").ring_after("0100"), "1200")

    def test_a_long_ring(self):
        text = "0120012100" * 4
        self.assertEqual(Rule("0111").ring_after(text), plain_beat("0111", 1, text))

    def test_inner_rows(self):
        for rule in some_rules():
            for size in range(0, 5):
                for row in plain_stands(rule, size):
                    told = "".join(rule(*row[at - 1:at + 2]) for at in range(1, size - 1))
                    self.assertEqual(rule.inner_after(row), told)

    def test_rows_of_less_than_three(self):
        for row in ["", "1", "11", "02"]:
            self.assertEqual(Rule("1111").inner_after(row), "")
        self.assertEqual(Rule("1111").inner_after("000"), "1")


class OtherRulesTest(unittest.TestCase):

    def test_mirrored(self):
        for rests in range(3):
            self.assertEqual(Rule("0100", rests).mirrored().table, "0010")
            self.assertEqual(Rule("1011", rests).mirrored().table, "1101")
            self.assertEqual(Rule("1010", rests).mirrored().rests, rests)
            for rule in Rule.all_of(rests):
                self.assertTrue(rule.mirrored().mirrored() == rule)

    def test_with_bit(self):
        told = [Rule("0110", 2).with_bit(place) for place in range(4)]
        self.assertEqual([rule.table for rule in told], ["1110", "0010", "0100", "0111"])
        self.assertEqual([rule.rests for rule in told], [2, 2, 2, 2])

    def test_the_rule_itself_stays(self):
        rule = Rule("0100", 2)
        rule.mirrored()
        rule.with_bit(0)
        rule.ring_after("0123")
        self.assertEqual([rule.table, rule.rests], ["0100", 2])

    def test_all_of(self):
        for rests in range(3):
            rules = Rule.all_of(rests)
            tables = [rule.table for rule in rules]
            self.assertEqual(tables, [f"{number:04b}" for number in range(16)])
            self.assertEqual({rule.rests for rule in rules}, {rests})
            self.assertIsInstance(rules, list)
            rules.clear()
            self.assertEqual(len(Rule.all_of(rests)), 16)

    def test_stirs(self):
        self.assertIs(Rule("0111").stirs("000"), False)
        self.assertIs(Rule("1000").stirs("000"), True)
        self.assertIs(Rule("0000", 0).stirs("1"), True)

    def test_is_still(self):
        for rests in range(3):
            for size in (1, 2, 7, 40):
                self.assertIs(Rule("0111", rests).is_still("0" * size), True)
                self.assertIs(Rule("1000", rests).is_still("0" * size), False)
                self.assertIs(Rule("0000", rests).is_still("0" * (size - 1) + "1"), False)
        self.assertIs(Rule("0000").is_still("2"), False)
        self.assertIs(Rule("0000", 2).is_still("03"), False)

    def test_still_stands_never_change(self):
        for rule in some_rules():
            for text in plain_stands(rule, 3):
                if rule.is_still(text):
                    self.assertIs(rule.stirs(text), False)


if __name__ == "__main__":
    unittest.main()
