"""[61] elders."""

import unittest

from standwaves.elders import (
    elders_before, elders_of, is_orphan_row, least_elder, many_elders, orphan_row, orphans_of)
from standwaves.rules import Rule
from tests.plain import plain_after, plain_beat, plain_stands, some_rules

WAVE = Rule("0111")
MOST = {0: 6, 1: 5, 2: 4}


def plain_elders(rule, size):
    """Returns the dict from each stand of size seats to its ascending elders."""
    elders = {text: [] for text in plain_stands(rule, size)}
    for text in plain_stands(rule, size):
        elders[plain_beat(rule.table, rule.rests, text)].append(text)
    return elders


def plain_rows(rule, length):
    """Returns the rows of so many characters that become of some row of two more."""
    return {rule.inner_after(row) for row in plain_stands(rule, length + 2)}


class EldersTest(unittest.TestCase):

    def test_all_small_stands(self):
        for rule in some_rules():
            for size in range(1, MOST[rule.rests] + 1):
                for text, elders in plain_elders(rule, size).items():
                    self.assertEqual(elders_of(rule, text), elders)
                    self.assertEqual(many_elders(rule, text), len(elders))
                    self.assertEqual(least_elder(rule, text), elders[0] if elders else None)

    def test_stands_without_elders(self):
        self.assertEqual([elders_of(WAVE, "111"), many_elders(WAVE, "111"), least_elder(WAVE, "111")], [[], 0, None])
        self.assertEqual([elders_of(WAVE, "1"), many_elders(WAVE, "1"), least_elder(WAVE, "1")], [[], 0, None])
        self.assertEqual([elders_of(WAVE, "20"), elders_of(WAVE, "0")], [["12"], ["0", "2"]])
        self.assertEqual([elders_before(WAVE, "111", many) for many in range(4)], [1, 0, 0, 0])

    def test_great_stands(self):
        self.assertEqual(many_elders(Rule("0000", 0), "0" * 40), 2 ** 40)
        self.assertEqual(many_elders(Rule("0000", 2), "0" * 40), 2 ** 40)
        self.assertEqual(many_elders(Rule("1111", 0), "01" * 20), 1)
        self.assertEqual(elders_of(Rule("1111", 1), "012" * 13 + "0"), ["201" * 13 + "2"])
        self.assertEqual(least_elder(Rule("0000", 0), "0" * 40), "0" * 40)
        text = plain_beat("0111", 1, "0120" * 10)
        self.assertLessEqual(least_elder(WAVE, text), "0120" * 10)
        self.assertEqual(plain_beat("0111", 1, least_elder(WAVE, text)), text)
        few = elders_of(WAVE, text)
        self.assertEqual(len(few), many_elders(WAVE, text))
        self.assertEqual(few, sorted(set(few)))
        self.assertEqual(few[0], least_elder(WAVE, text))
        self.assertEqual({plain_beat("0111", 1, elder) for elder in few}, {text})
        self.assertIn("0120" * 10, few)

    def test_many_elders_in_one_list(self):
        elders = elders_of(Rule("0000"), "0" * 10)
        self.assertEqual(len(elders), 1024)
        self.assertEqual(elders[:2] + elders[-1:], ["0" * 10, "0" * 9 + "2", "2" * 10])

    def test_several_beats(self):
        for rule in some_rules():
            for size in range(1, {0: 6, 1: 5, 2: 4}[rule.rests]):
                stands = plain_stands(rule, size)
                for many in range(5):
                    later = [plain_after(rule, text, many) for text in stands]
                    for text in stands[::3]:
                        self.assertEqual(elders_before(rule, text, many), later.count(text))

    def test_six_seats(self):
        self.assertEqual(elders_before(WAVE, "000000", 0), 1)
        self.assertEqual(elders_before(WAVE, "000000", 1), many_elders(WAVE, "000000"))
        self.assertEqual(elders_before(Rule("0000", 2), "000000", 4), 4096)
        self.assertEqual(elders_before(Rule("0000", 2), "000000", 3), 4096)
        self.assertEqual(elders_before(Rule("0000", 2), "000000", 2), 729)


class OrphansTest(unittest.TestCase):

    def test_orphans(self):
        for rests in range(3):
            for rule in Rule.all_of(rests):
                for size in range(1, {0: 6, 1: 5, 2: 4}[rests]):
                    wanted = [text for text, elders in plain_elders(rule, size).items() if not elders]
                    self.assertEqual(orphans_of(rule, size), wanted)

    def test_greatest_sizes(self):
        self.assertEqual(orphans_of(Rule("1111", 0), 5), [])
        self.assertEqual(orphans_of(Rule("1111"), 5), [])
        self.assertEqual(orphans_of(Rule("1111", 2), 4), [])
        self.assertEqual(len(orphans_of(Rule("0000"), 5)), 3 ** 5 - 2 ** 5)
        self.assertEqual(len(orphans_of(Rule("0000", 2), 4)), 4 ** 4 - 3 ** 4)

    def test_rows(self):
        for rests in range(3):
            for rule in Rule.all_of(rests):
                for length in range({0: 7, 1: 4, 2: 3}[rests]):
                    some = plain_rows(rule, length)
                    for row in plain_stands(rule, length):
                        self.assertIs(is_orphan_row(rule, row), row not in some)

    def test_great_rows(self):
        self.assertIs(is_orphan_row(WAVE, "0" * 40), False)
        self.assertIs(is_orphan_row(WAVE, "0" * 37 + "010"), True)
        self.assertIs(is_orphan_row(WAVE, "010" + "0" * 37), True)
        self.assertIs(is_orphan_row(WAVE, "0" * 18 + "010" + "0" * 19), True)
        self.assertIs(is_orphan_row(Rule("1111", 2), "0123" * 10), False)
        self.assertIs(is_orphan_row(Rule("0000"), ""), False)

    def test_least_orphan_rows(self):
        for rests in range(3):
            for rule in Rule.all_of(rests):
                row = orphan_row(rule)
                if rule.table == "1111":
                    self.assertIsNone(row)
                else:
                    for length in range(len(row)):
                        self.assertEqual(plain_rows(rule, length), set(plain_stands(rule, length)))
                    missing = set(plain_stands(rule, len(row))) - plain_rows(rule, len(row))
                    self.assertEqual(row, min(missing))
        self.assertEqual([orphan_row(WAVE), orphan_row(Rule("0000")), orphan_row(Rule("1001", 0))], ["010", "1", "1011"])

    def test_a_stand_with_such_a_row_is_an_orphan(self):
        for rule in some_rules():
            row = orphan_row(rule)
            if row is not None:
                self.assertEqual(many_elders(rule, row[1:] + "0" * 5 + row[:1]), 0)
                self.assertIsNone(least_elder(rule, row + "0"))


if __name__ == "__main__":
    unittest.main()
