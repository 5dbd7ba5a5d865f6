"""[10] and [11] for the files of the stages 7 to 9, as far as stands go."""

import unittest

from standwaves.changes import fewest_bits, harm_of, tables_of, tables_with_shape
from standwaves.ends_of_rows import joined_rows, row_beats, row_fate, row_quiet
from standwaves.game import Game
from standwaves.mixes import (
    is_mixed_shape, mirrored_mix, mixed_after, mixed_fate, mixed_quiet, parting_stand, shifted_mix, short_mix)
from standwaves.rules import Rule
from standwaves.rulesets import alike_after, alike_groups, parted_after, quiet_tables
from standwaves.runs import after
from standwaves.stands import mirror_of
from standwaves.stubborn import are_stubborn, cut_rows, held_after, held_fate, held_quiet
from tests.plain import plain_stands, some_rules


def some_stands(rule):
    """Returns stands of one seat, of two, of three, and greater ones."""
    last = rule.signs[-1]
    small = [text for size in (1, 2, 3) for text in plain_stands(rule, size)]
    return small[::2] + ["0010" + last, "1000" + last + "0", "0110" + last + "00"]


def mirrored_table(table):
    """Returns a table with its second and its third character exchanged."""
    return table[0] + table[2] + table[1] + table[3]


def mirrored_tables(tables):
    """Returns the ascending list of tables mirrored."""
    return sorted(mirrored_table(table) for table in tables)


def some_seats(text):
    """Returns tuples of sitting seats."""
    sitting = [seat for seat, sign in enumerate(text) if sign == "0"]
    return [(), tuple(sitting), tuple(sitting[:1]), tuple(sitting[-1:]), tuple(sitting[1::2])]


def some_mixes():
    """Returns lists of Rules."""
    return [[Rule("0010"), Rule("0111")], [Rule("0100")], [Rule("1001", 0), Rule("0010", 0), Rule("0010", 0)],
            [Rule("0010", 2), Rule("1100", 2)] * 2]


class SidesTest(unittest.TestCase):
    """[10]"""

    def test_mixes(self):
        for rules in some_mixes():
            others = mirrored_mix(rules)
            self.assertEqual(others, [rule.mirrored() for rule in rules])
            self.assertEqual(mirrored_mix(others), rules)
            self.assertEqual(short_mix(others), mirrored_mix(short_mix(rules)))
            self.assertEqual(shifted_mix(others, 7), mirrored_mix(shifted_mix(rules, 7)))
            for more in some_mixes():
                if more[0].rests == rules[0].rests:
                    told = parting_stand(rules, more, 2)
                    back = parting_stand(others, mirrored_mix(more), 2)
                    self.assertEqual(told and len(told), back and len(back))
            for text in some_stands(rules[0]):
                back = mirror_of(text)
                self.assertEqual(mixed_after(others, back, 5), mirror_of(mixed_after(rules, text, 5)))
                self.assertEqual(mixed_fate(others, back), mixed_fate(rules, text))
                self.assertEqual(mixed_quiet(others, back), mixed_quiet(rules, text))
                for p in (-1, 0, 1):
                    self.assertIs(is_mixed_shape(others, back, -p, 2), is_mixed_shape(rules, text, p, 2))

    def test_games(self):
        game, back = Game(Rule("0010"), "010020"), Game(Rule("0100"), "020010")
        for deed, turned in ((("beats", 1), ("beats", 1)), (("hold", 0), ("hold", 5)), (("turn", 2), ("turn", -2)),
                             (("table", "1011"), ("table", "1101")), (("beats", 3), ("beats", 3)),
                             (("free", 2), ("free", 3)), (("seat", 1, "2"), ("seat", 4, "2"))):
            game.do(deed)
            back.do(turned)
            self.assertEqual(back.text, mirror_of(game.text))
            self.assertEqual((back.rule, back.beats), (game.rule.mirrored(), game.beats))
            self.assertEqual(back.held(), sorted(5 - seat for seat in game.held()))

    def test_rulesets(self):
        for one in some_rules():
            for other in some_rules():
                told = parted_after(one, other, 2)
                back = parted_after(one.mirrored(), other.mirrored(), 2)
                self.assertEqual(told and len(told), back and len(back))
                self.assertIs(alike_after(one.mirrored(), other.mirrored(), 2), told is None)
        for rests in range(3):
            groups = alike_groups(rests, 3, 3)
            self.assertEqual(sorted(mirrored_tables(group) for group in groups), sorted(groups))
            self.assertEqual(mirrored_tables(quiet_tables(rests, 3)), quiet_tables(rests, 3))

    def test_changes(self):
        for rule in some_rules():
            other = rule.mirrored()
            for text in some_stands(rule):
                back = mirror_of(text)
                for many in (0, 1, 3):
                    later = after(rule, text, many)
                    told = tables_of(text, later, rule.rests, many)
                    self.assertEqual(tables_of(back, mirror_of(later), rule.rests, many), mirrored_tables(told))
                for p in (-1, 0, 2):
                    told = tables_with_shape(text, p, 2, rule.rests)
                    self.assertEqual(tables_with_shape(back, -p, 2, rule.rests), mirrored_tables(told))
                for wish in (True, False):
                    self.assertEqual(len(fewest_bits(other, back, wish)), len(fewest_bits(rule, text, wish)))
                harm = harm_of(rule, text)
                self.assertEqual(harm_of(other, back), {0: harm[0], 1: harm[2], 2: harm[1], 3: harm[3]})

    def test_stubborn(self):
        for rule in some_rules():
            other = rule.mirrored()
            for text in some_stands(rule):
                back, last = mirror_of(text), len(text) - 1
                for seats in some_seats(text):
                    turned = [last - seat for seat in seats]
                    self.assertIs(are_stubborn(back, turned), True)
                    self.assertEqual(held_after(other, back, turned, 3), mirror_of(held_after(rule, text, seats, 3)))
                    self.assertEqual(held_fate(other, back, turned), held_fate(rule, text, seats))
                    self.assertEqual(held_quiet(other, back, turned), held_quiet(rule, text, seats))
                    rows = [((last - first - len(row) + 1) % len(text), mirror_of(row))
                            for first, row in cut_rows(text, seats)]
                    self.assertEqual(cut_rows(back, turned), sorted(rows))

    def test_rows(self):
        for rule in some_rules():
            other = rule.mirrored()
            for row in some_stands(rule) + [""]:
                back = mirror_of(row)
                self.assertEqual(row_beats(other, back, 3), mirror_of(row_beats(rule, row, 3)))
                self.assertEqual([row_fate(other, back), row_quiet(other, back)],
                                 [row_fate(rule, row), row_quiet(rule, row)])
                for more in ("", "0", "10", "010"):
                    self.assertIs(joined_rows(other, mirror_of(more), back), joined_rows(rule, row, more))


class RepeatsTest(unittest.TestCase):
    """[11]"""

    def test_mixes(self):
        for rules in some_mixes():
            for text in some_stands(rules[0])[::2]:
                for times in (2, 3):
                    more = text * times
                    self.assertEqual(mixed_after(rules, more, 5), mixed_after(rules, text, 5) * times)
                    self.assertEqual(mixed_fate(rules, more), mixed_fate(rules, text))
                    self.assertEqual(mixed_quiet(rules, more), mixed_quiet(rules, text))
                    for p in (-1, 0, 1):
                        self.assertIs(is_mixed_shape(rules, more, p, 2), is_mixed_shape(rules, text, p, 2))

    def test_changes(self):
        for rule in some_rules():
            for text in some_stands(rule)[::2]:
                for times in (2, 3):
                    more = text * times
                    later = after(rule, text, 2)
                    self.assertEqual(tables_of(more, later * times, rule.rests, 2), tables_of(text, later, rule.rests, 2))
                    for p in (-1, 0, 1):
                        self.assertEqual(tables_with_shape(more, p, 2, rule.rests),
                                         tables_with_shape(text, p, 2, rule.rests))
                    self.assertEqual(harm_of(rule, more), harm_of(rule, text))
                    for wish in (True, False):
                        self.assertEqual(fewest_bits(rule, more, wish), fewest_bits(rule, text, wish))

    def test_stubborn(self):
        for rule in some_rules():
            for text in some_stands(rule):
                size = len(text)
                for seats in some_seats(text):
                    more = [seat + size * part for part in (1, 0) for seat in seats]
                    self.assertEqual(held_after(rule, text * 2, more, 3), held_after(rule, text, seats, 3) * 2)
                    self.assertEqual(held_fate(rule, text * 2, more), held_fate(rule, text, seats))
                    self.assertEqual(held_quiet(rule, text * 2, more), held_quiet(rule, text, seats))
                    rows = cut_rows(text, seats)
                    twice = [(first + size * part, row) for part in (0, 1) for first, row in rows]
                    self.assertEqual(cut_rows(text * 2, more), twice)

    def test_quiet_tables(self):
        for rests in range(3):
            for size in (1, 2):
                self.assertLessEqual(set(quiet_tables(rests, size * 2)), set(quiet_tables(rests, size)))


if __name__ == "__main__":
    unittest.main()
