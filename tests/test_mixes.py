"""[92] mixes."""

import unittest

from standwaves.mixes import (
    are_mixed, is_mixed_shape, mirrored_mix, mixed_after, mixed_fate, mixed_quiet, parting_stand, shifted_mix,
    short_mix)
from standwaves.rules import Rule
from standwaves.runs import after, fate_of, still_from
from tests.plain import plain_beat, plain_stands, plain_turn, some_rules, strange_values

WAVE = Rule("0111")
NONE = Rule("0000")


def some_mixes():
    """Returns lists of Rules, one alone and one several times among them."""
    return [[WAVE], [WAVE, WAVE], [WAVE, NONE], [NONE, WAVE, WAVE], [Rule("1001"), WAVE], [Rule("0010"), Rule("0100")],
            [Rule("1000"), NONE, Rule("1000"), NONE], [Rule("1111", 0), Rule("0110", 0)], [Rule("0110", 0)],
            [Rule("1011", 0), Rule("0000", 0), Rule("0110", 0)], [Rule("0111", 2), Rule("0001", 2)],
            [Rule("1100", 2), Rule("0010", 2), Rule("0111", 2), Rule("0111", 2)]]


def plain_path(rules, text, many):
    """Returns the stands at first and after 1, .., many beats."""
    stands = [text]
    for beat in range(many):
        rule = rules[beat % len(rules)]
        stands.append(plain_beat(rule.table, rule.rests, stands[-1]))
    return stands


def plain_fate(rules, text):
    """Returns the least period of the stands, and from when on they have it, looked at for very long."""
    many = len(rules)
    seen = {}
    stands = plain_path(rules, text, 2000)
    beats = 0
    while (stands[beats], beats % many) not in seen:
        seen[(stands[beats], beats % many)] = beats
        beats += 1
    first = seen[(stands[beats], beats % many)]
    period = next(period for period in range(1, beats + 1)
                  if all(stands[at] == stands[at + period] for at in range(first, 2 * beats)))
    early = next(early for early in range(beats + 1)
                 if all(stands[at] == stands[at + period] for at in range(early, 2 * beats)))
    return (early, period)


def stands_of(rules):
    """Returns some stands of the signs of these Rules."""
    return [text for size in (1, 2, 3) for text in plain_stands(rules[0], size)] + plain_stands(rules[0], 5)[5::97]


class AreMixedTest(unittest.TestCase):

    def test_mixes(self):
        for rules in some_mixes():
            self.assertIs(are_mixed(rules), True)
            self.assertIs(are_mixed(tuple(rules)), True)

    def test_unlike_rests(self):
        for rules in ([WAVE, Rule("0111", 0)], [Rule("0111", 2), WAVE], [WAVE, WAVE, Rule("0111", 2)]):
            self.assertIs(are_mixed(rules), False)
            self.assertIs(are_mixed(tuple(rules)), False)

    def test_others(self):
        for thing in ([], (), {}, [None], [WAVE, None], [[WAVE]], ([WAVE],), {0: WAVE}, WAVE, "0111", ["0111"],
                      [WAVE, "0111"], [Rule], Rule, [0, WAVE], [True]):
            self.assertIs(are_mixed(thing), False, thing)

    def test_any_value(self):
        for value in strange_values():
            self.assertIs(are_mixed(value), False)
            self.assertIs(are_mixed([value]), isinstance(value, Rule))
            self.assertIs(are_mixed((WAVE, value)), isinstance(value, Rule))


class BeatsTest(unittest.TestCase):

    def test_after(self):
        for rules in some_mixes():
            for text in stands_of(rules):
                stands = plain_path(rules, text, 9)
                for many in range(10):
                    self.assertEqual(mixed_after(rules, text, many), stands[many])
                    self.assertEqual(mixed_after(tuple(rules), text, many), stands[many])

    def test_two_thousand_beats(self):
        self.assertEqual(mixed_after([WAVE, WAVE], "012", 2000), after(WAVE, "012", 2000))
        text = "0120" * 10
        for rules in ([WAVE, Rule("0110"), Rule("1111")], [Rule("0010"), Rule("0100"), WAVE, NONE]):
            self.assertEqual(mixed_after(rules, text, 2000), plain_path(rules, text, 2000)[-1])

    def test_fate_and_quiet(self):
        for rules in some_mixes():
            for text in stands_of(rules):
                fate = plain_fate(rules, text)
                self.assertEqual(mixed_fate(rules, text), fate)
                self.assertEqual(mixed_fate(tuple(rules), text), fate)
                stands = plain_path(rules, text, sum(fate) + 12)
                quiet = [beats for beats in range(len(stands) - 12)
                         if all(set(stand) == {"0"} for stand in stands[beats:])]
                self.assertEqual(mixed_quiet(rules, text), quiet[0] if quiet else None)

    def test_one_rule(self):
        for rule in some_rules():
            for text in stands_of([rule])[::3]:
                for rules in ([rule], (rule,), [rule, rule], [rule] * 4):
                    self.assertEqual(mixed_fate(rules, text), fate_of(rule, text))
                    self.assertEqual(mixed_quiet(rules, text), still_from(rule, text))
                    self.assertEqual(mixed_after(rules, text, 7), after(rule, text, 7))

    def test_fates_by_period_first(self):
        # With the Rule that comes next it comes again after two beats, but the stands alone after one.
        self.assertEqual(mixed_fate([WAVE, NONE], "1000"), (3, 1))
        self.assertEqual(mixed_fate([NONE, Rule("0001")], "000"), (0, 1))
        # A stand that comes again before all further ones do is not yet of the period.
        one, two = Rule("0111", 0), Rule("0000", 0)
        self.assertEqual(plain_path([two, one, one], "011", 7),
                         ["011", "000", "000", "000", "000", "000", "000", "000"])
        self.assertEqual(mixed_fate([two, one, one], "011"), (1, 1))
        self.assertEqual(plain_path([Rule("1111"), NONE], "0", 6), ["0", "1", "2", "0", "0", "1", "2"])
        self.assertEqual(mixed_fate([Rule("1111"), NONE], "0"), (0, 4))

    def test_never_quiet(self):
        self.assertIsNone(mixed_quiet([WAVE, Rule("1111")], "000"))
        self.assertIsNone(mixed_quiet([WAVE], "012"))
        # All sit after each second beat, but not for ever.
        self.assertEqual(plain_path([NONE, Rule("1111")], "000", 4)[1:3], ["000", "111"])
        self.assertIsNone(mixed_quiet([NONE, Rule("1111")], "000"))
        self.assertEqual(mixed_quiet([WAVE, NONE], "1000"), 3)

    def test_eight_seats(self):
        for rules, text in (([WAVE, Rule("0011")], "00120120"), ([Rule("0110", 0), Rule("1001", 0)], "10010110"),
                            ([Rule("0111", 2), Rule("1011", 2), Rule("0110", 2)], "01230012")):
            fate = plain_fate(rules, text)
            self.assertEqual(mixed_fate(rules, text), fate)
            self.assertEqual(mixed_after(rules, text, fate[0]), mixed_after(rules, text, sum(fate)))


class ShapesTest(unittest.TestCase):

    def test_shapes(self):
        for rules in some_mixes():
            for text in stands_of(rules)[::2]:
                for rounds in (1, 2, 3):
                    later = plain_path(rules, text, rounds * len(rules))[-1]
                    for p in (-2, -1, 0, 1, 10 ** 40):
                        wanted = later == plain_turn(text, p)
                        self.assertIs(is_mixed_shape(rules, text, p, rounds), wanted)
                        self.assertIs(is_mixed_shape(tuple(rules), text, p, rounds), wanted)

    def test_a_hundred_rounds(self):
        self.assertIs(is_mixed_shape([WAVE], "012", -100, 100), True)
        self.assertIs(is_mixed_shape([WAVE] * 4, "012", -400, 100), True)
        self.assertIs(is_mixed_shape([WAVE] * 4, "012", -401, 100), False)
        self.assertIs(is_mixed_shape([WAVE, WAVE], "021", 2, 1), True)


class ListsTest(unittest.TestCase):

    def test_short(self):
        other = Rule("0110")
        for rules, wanted in (([WAVE], [WAVE]), ([WAVE, WAVE], [WAVE]), ([WAVE] * 4, [WAVE]), ([WAVE, NONE], [WAVE, NONE]),
                              ([WAVE, NONE] * 2, [WAVE, NONE]), ([WAVE, NONE, WAVE], [WAVE, NONE, WAVE]),
                              ([WAVE, WAVE, NONE, WAVE], [WAVE, WAVE, NONE, WAVE]), ([WAVE, other, NONE], [WAVE, other, NONE]),
                              ([WAVE, NONE, NONE, WAVE], [WAVE, NONE, NONE, WAVE])):
            self.assertEqual(short_mix(rules), wanted)
            self.assertEqual(short_mix(tuple(rules)), wanted)
            self.assertIsInstance(short_mix(tuple(rules)), list)
        # Equal ones, though not the same objects.
        self.assertEqual(short_mix([Rule("0111"), Rule("0000"), Rule("0111"), Rule("0000")]), [WAVE, NONE])

    def test_shifted(self):
        rules = [WAVE, NONE, Rule("0110")]
        for many, wanted in ((0, rules), (1, rules[1:] + rules[:1]), (2, rules[2:] + rules[:2]), (3, rules),
                             (10 ** 40, rules[1:] + rules[:1]), (3 * 10 ** 999 + 2, rules[2:] + rules[:2])):
            self.assertEqual(shifted_mix(rules, many), wanted)
            self.assertEqual(shifted_mix(tuple(rules), many), wanted)
        self.assertEqual(shifted_mix((WAVE,), 10 ** 39), [WAVE])

    def test_shifted_goes_on(self):
        for rules in some_mixes():
            for text in stands_of(rules)[::5]:
                for many in (0, 1, 2, 5):
                    told = mixed_after(shifted_mix(rules, many), mixed_after(rules, text, many), 4)
                    self.assertEqual(told, mixed_after(rules, text, many + 4))

    def test_mirrored(self):
        self.assertEqual(mirrored_mix([Rule("0010"), WAVE]), [Rule("0100"), WAVE])
        self.assertEqual(mirrored_mix((Rule("0011", 2),)), [Rule("0101", 2)])

    def test_new_lists(self):
        rules = [WAVE, NONE]
        for told in (short_mix(rules), shifted_mix(rules, 0), shifted_mix(rules, 1), mirrored_mix(rules)):
            told.append(None)
            self.assertEqual(rules, [WAVE, NONE])


class PartingTest(unittest.TestCase):

    def plain(self, one, other, many):
        for size in range(1, 2 * many + 2):
            for text in plain_stands(one[0], size):
                if plain_path(one, text, many)[-1] != plain_path(other, text, many)[-1]:
                    return text
        return None

    def test_all(self):
        mixes = some_mixes()
        for one in mixes:
            for other in mixes:
                if one[0].rests == other[0].rests:
                    for many in (0, 1, 2):
                        wanted = self.plain(one, other, many)
                        self.assertEqual(parting_stand(one, other, many), wanted)
                        self.assertEqual(parting_stand(tuple(other), one, many), wanted)

    def test_told_apart(self):
        self.assertEqual(parting_stand([WAVE, NONE], [WAVE], 2), "012")
        self.assertEqual(parting_stand([WAVE], [NONE], 1), "01")
        self.assertEqual(parting_stand([Rule("0010")], [NONE], 1), "001")

    def test_no_stand_tells_them_apart(self):
        self.assertIsNone(parting_stand([WAVE, NONE], [NONE, WAVE], 0))
        self.assertIsNone(parting_stand([WAVE, NONE], [WAVE], 1))
        self.assertIsNone(parting_stand([WAVE], (WAVE, WAVE, WAVE), 2))
        # By "0000" without rests nobody stands, whatever was ahead of it.
        nobody = Rule("0000", 0)
        self.assertIsNone(parting_stand([Rule("0111", 0), nobody], [Rule("1001", 0), nobody], 2))
        self.assertEqual(parting_stand([Rule("0111", 0), nobody], [Rule("1001", 0), nobody], 1), "0")


if __name__ == "__main__":
    unittest.main()
