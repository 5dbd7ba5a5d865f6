"""[80] rulesets."""

import unittest

from standwaves.rules import Rule
from standwaves.rulesets import alike_after, alike_groups, parted_after, quiet_tables
from tests.plain import plain_after, plain_beat, plain_stands, some_rules

WAVE = Rule("0111")


def plain_parted(one, other, many, most):
    """Returns the first stand of common signs that is not the same by both, up to most seats."""
    fewer = one if one.rests < other.rests else other
    for size in range(1, most + 1):
        for text in plain_stands(fewer, size):
            if plain_after(one, text, many) != plain_after(other, text, many):
                return text
    return None


def plain_quiet(rule, text):
    """Returns whether a stand is still in the end."""
    seen = []
    while text not in seen:
        seen.append(text)
        text = plain_beat(rule.table, rule.rests, text)
    return set(text) == {"0"} and rule.table[0] == "0"


class PartedTest(unittest.TestCase):

    def test_some_rules(self):
        for one in some_rules():
            for other in some_rules():
                for many in (1, 2):
                    told = parted_after(one, other, many)
                    self.assertEqual(told, plain_parted(one, other, many, 5))
                    self.assertEqual(parted_after(other, one, many), told)
                    self.assertIs(alike_after(one, other, many), told is None)

    def test_three_beats(self):
        for one in Rule.all_of(0)[::3]:
            for other in Rule.all_of(0)[::5] + Rule.all_of(1)[::5] + Rule.all_of(2)[::5]:
                told = plain_parted(one, other, 3, 5)
                self.assertEqual(parted_after(one, other, 3), told or plain_parted(one, other, 3, 7))

    def test_equal_rules(self):
        for rests in range(3):
            for one, other in zip(Rule.all_of(rests), Rule.all_of(rests)):
                for many in (1, 2, 3):
                    self.assertIsNone(parted_after(one, other, many))
                    self.assertIs(alike_after(one, other, many), True)

    def test_one_beat_parts_all_others(self):
        rules = [rule for rests in range(3) for rule in Rule.all_of(rests)]
        for at, one in enumerate(rules):
            for other in rules[:at]:
                self.assertIs(alike_after(one, other, 1), False)

    def test_parted_by_several_seats_alone(self):
        self.assertEqual(parted_after(Rule("0000"), Rule("0010"), 1), "001")
        self.assertEqual(parted_after(Rule("0000"), Rule("0001"), 1), "01")
        self.assertEqual(parted_after(Rule("0000", 0), Rule("0110", 0), 2), "0011")
        self.assertEqual(parted_after(Rule("0010", 0), Rule("0100", 0), 3), "0001")
        self.assertEqual(parted_after(Rule("0000", 0), Rule("0110"), 3), "00001")

    def test_unlike_rests(self):
        self.assertEqual(parted_after(Rule("0111", 0), WAVE, 1), "1")
        self.assertEqual(parted_after(WAVE, Rule("0111", 2), 1), "2")
        self.assertEqual(parted_after(Rule("0111", 2), Rule("0111", 0), 1), "1")
        # Not the same after one beat, but after two: "1" sits then by both.
        self.assertEqual(parted_after(Rule("0000", 0), Rule("0000"), 1), "1")
        self.assertIsNone(parted_after(Rule("0000", 0), Rule("0000"), 2))
        self.assertIs(alike_after(Rule("0000"), Rule("0000", 0), 2), True)
        self.assertIsNone(parted_after(Rule("0000", 0), Rule("0001"), 3))
        self.assertIsNone(parted_after(Rule("0000", 2), Rule("0000", 0), 3))
        self.assertEqual(parted_after(Rule("0000", 0), Rule("0000", 2), 2), "1")

    def test_none_of_any_size(self):
        for one, other, many in ((Rule("0000", 0), Rule("0000"), 2), (Rule("0000", 0), Rule("0001"), 3),
                                 (Rule("0000", 0), Rule("0000", 2), 3)):
            self.assertIsNone(plain_parted(one, other, many, 9))


class GroupsTest(unittest.TestCase):

    def test_all(self):
        for rests in range(3):
            for size in range(1, 5 if rests == 0 else 4):
                stands = plain_stands(Rule("0000", rests), size)
                for many in (1, 2, 3, 6):
                    groups = []
                    for rule in Rule.all_of(rests):
                        told = [plain_after(rule, text, many) for text in stands]
                        fitting = [group for group in groups if group[0] == told]
                        if fitting:
                            fitting[0][1].append(rule.table)
                        else:
                            groups.append((told, [rule.table]))
                    self.assertEqual(alike_groups(rests, many, size), [tables for _, tables in groups])

    def test_four_seats(self):
        groups = alike_groups(2, 6, 4)
        self.assertEqual(sorted(table for group in groups for table in group), [rule.table for rule in Rule.all_of(2)])
        stands = plain_stands(Rule("0000", 2), 4)
        for group in groups:
            told = [[plain_after(Rule(table, 2), text, 6) for text in stands] for table in group[:2]]
            self.assertEqual(told[0], told[-1])

    def test_one_table_and_more(self):
        self.assertEqual(alike_groups(1, 1, 3), [[rule.table] for rule in Rule.all_of(1)])
        self.assertEqual(alike_groups(1, 1, 1), [[rule.table for rule in Rule.all_of(1)[:8]],
                                                 [rule.table for rule in Rule.all_of(1)[8:]]])
        self.assertEqual(alike_groups(0, 2, 3)[0], ["0000", "0001", "0110"])
        self.assertEqual(alike_groups(0, 3, 3)[:3], [["0000", "0001", "0110"], ["0010", "0100"], ["0011"]])

    def test_all_sixteen_where_there_are_no_beats(self):
        for rests in range(3):
            self.assertEqual(alike_groups(rests, 0, 2), [[rule.table for rule in Rule.all_of(rests)]])

    def test_new_lists(self):
        groups = alike_groups(1, 1, 1)
        groups[0].append("x")
        groups.append([])
        self.assertEqual([len(group) for group in alike_groups(1, 1, 1)], [8, 8])


class QuietTest(unittest.TestCase):

    def test_all(self):
        for rests in range(3):
            for size in range(1, 5 if rests < 2 else 4):
                wanted = [rule.table for rule in Rule.all_of(rests)
                          if all(plain_quiet(rule, text) for text in plain_stands(rule, size))]
                self.assertEqual(quiet_tables(rests, size), wanted)

    def test_four_seats(self):
        self.assertEqual(quiet_tables(0, 4), ["0000"])
        self.assertEqual(quiet_tables(0, 3), ["0000", "0001", "0110"])
        self.assertEqual(quiet_tables(1, 4), ["0000", "0001"])
        self.assertEqual(quiet_tables(2, 4), ["0000", "0001"])
        quiet_tables(2, 4).append("x")
        self.assertEqual(quiet_tables(2, 4), ["0000", "0001"])


if __name__ == "__main__":
    unittest.main()
