"""[81] changes."""

import unittest

from standwaves.changes import fewest_bits, harm_of, tables_of, tables_with_shape
from standwaves.rules import Rule
from tests.plain import plain_after, plain_beat, plain_stands, plain_turn, some_rules

WAVE = Rule("0111")
ALL = [rule.table for rule in Rule.all_of(1)]


def stands_of(rule):
    """Returns stands of a rule: small ones, and some of five seats."""
    small = [text for size in (1, 2, 3) for text in plain_stands(rule, size)]
    return small[::3] + plain_stands(rule, 5)[7::97]


def plain_path(rule, text):
    """Returns the stands until one comes again, and this one."""
    path = []
    while text not in path:
        path.append(text)
        text = plain_beat(rule.table, rule.rests, text)
    return path + [text]


def is_quiet(rule, text):
    """Returns whether a stand is still in the end."""
    last = plain_path(rule, text)[-1]
    return set(last) == {"0"} and rule.table[0] == "0"


def turned_about(table, places):
    """Returns a table with the characters at these places turned about."""
    return "".join({"0": "1", "1": "0"}[bit] if place in places else bit for place, bit in enumerate(table))


def places_in_order():
    """Returns all lists of places: the shortest ahead, of these the least."""
    return [[], [0], [1], [2], [3], [0, 1], [0, 2], [0, 3], [1, 2], [1, 3], [2, 3],
            [0, 1, 2], [0, 1, 3], [0, 2, 3], [1, 2, 3], [0, 1, 2, 3]]


class TablesTest(unittest.TestCase):

    def test_told_back(self):
        for rests in range(3):
            for text in stands_of(Rule("0000", rests)):
                for many in (0, 1, 2, 7, 20):
                    for table in ("0111", "0010", "1001", "0000"):
                        later = plain_after(Rule(table, rests), text, many)
                        wanted = [rule.table for rule in Rule.all_of(rests) if plain_after(rule, text, many) == later]
                        self.assertIn(table, wanted)
                        self.assertEqual(tables_of(text, later, rests, many), wanted)

    def test_no_beats(self):
        self.assertEqual(tables_of("012", "012", 1, 0), ALL)
        self.assertEqual(tables_of("012", "120", 1, 0), [])

    def test_what_cannot_become(self):
        self.assertEqual(tables_of("01", "01", 1, 1), [])
        self.assertEqual(tables_of("1", "0", 1, 1), [])
        self.assertEqual(tables_of("1", "2", 1, 1), ALL)
        self.assertEqual(tables_of("1", "0", 0, 1), ALL)
        self.assertEqual(tables_of("0", "1", 1, 1), ALL[8:])
        self.assertEqual(tables_of("00", "10", 1, 20), [])

    def test_signs_that_are_none(self):
        for text, later, rests in (("2", "0", 0), ("0", "2", 0), ("3", "0", 1), ("0", "3", 1), ("x", "0", 2),
                                   ("0", " ", 2), ("0", "-", 2), ("01", "0\n", 2), ("4", "0", 2)):
            for many in (0, 1, 20):
                self.assertEqual(tables_of(text, later, rests, many), [], (text, later))
        # Not even where nothing would change it.
        self.assertEqual(tables_of("x", "x", 1, 0), [])
        self.assertEqual(tables_of("3", "3", 1, 0), [])
        self.assertEqual(tables_of("3", "3", 2, 0), [rule.table for rule in Rule.all_of(2)])

    def test_forty_seats(self):
        text = "0120" * 10
        self.assertEqual(tables_of(text, plain_after(WAVE, text, 20), 1, 20), tables_with_shape(text, 0, 20, 1))
        self.assertIn("0111", tables_of(text, plain_after(WAVE, text, 20), 1, 20))

    def test_with_shape(self):
        for rests in range(3):
            for text in stands_of(Rule("0000", rests)):
                for p in (-5, -1, 0, 1, 2, 10 ** 40 + 1):
                    for q in (1, 2, 3):
                        wanted = [rule.table for rule in Rule.all_of(rests)
                                  if plain_after(rule, text, q) == plain_turn(text, p)]
                        self.assertEqual(tables_with_shape(text, p, q, rests), wanted)

    def test_shapes_of_sixty_beats(self):
        on = [table for table in ALL if table[1] == "1"]
        self.assertEqual([tables_with_shape("012", -1, 1, 1), tables_with_shape("012", -60, 60, 1)], [on, on])
        self.assertEqual([tables_with_shape("012", 1, 60, 1), tables_with_shape("012", 1, 59, 1)], [[], on])
        self.assertEqual(tables_with_shape("000", 10 ** 39, 59, 1), ALL[:8])

    def test_shapes_with_signs_that_are_none(self):
        for text, rests in (("2", 0), ("013", 1), ("x", 2), ("0 1", 2)):
            self.assertEqual(tables_with_shape(text, 0, 1, rests), [])
            self.assertEqual(tables_with_shape(text, 10 ** 39, 60, rests), [])

    def test_new_lists(self):
        tables_of("1", "2", 1, 1).append("x")
        tables_with_shape("000", 0, 1, 1).append("x")
        self.assertEqual((tables_of("1", "2", 1, 1), tables_with_shape("000", 0, 1, 1)), (ALL, ALL[:8]))


class BitsTest(unittest.TestCase):

    def test_some_rules(self):
        for rule in some_rules():
            for text in stands_of(rule):
                for wish in (True, False):
                    wanted = [places for places in places_in_order()
                              if is_quiet(Rule(turned_about(rule.table, places), rule.rests), text) is wish]
                    self.assertEqual(fewest_bits(rule, text, wish), wanted[0])

    def test_so_already(self):
        self.assertEqual(fewest_bits(WAVE, "000", True), [])
        self.assertEqual(fewest_bits(WAVE, "100", True), [])
        self.assertEqual(fewest_bits(WAVE, "012", False), [])
        self.assertEqual(fewest_bits(Rule("1000"), "000", False), [])

    def test_each_wish(self):
        self.assertEqual(fewest_bits(WAVE, "000", False), [0])
        self.assertEqual(fewest_bits(WAVE, "100", False), [0])
        self.assertEqual(fewest_bits(Rule("1000"), "000", True), [0])
        self.assertEqual(fewest_bits(Rule("1111"), "012", True), [0, 1])
        self.assertEqual(fewest_bits(Rule("0000", 0), "010", False), [0])

    def test_the_least_of_several(self):
        # Turning [1] about would do as well as [2], and [2] as well as [3].
        self.assertEqual([is_quiet(Rule(table, 0), "001") for table in ("0010", "0110", "0000")], [False, True, True])
        self.assertEqual(fewest_bits(Rule("0010", 0), "001", True), [1])
        self.assertEqual([is_quiet(Rule(table, 0), "011") for table in ("0011", "0111", "0001", "0010")],
                         [False, False, True, True])
        self.assertEqual(fewest_bits(Rule("0011", 0), "011", True), [2])

    def test_greatest_stands(self):
        for rule, text in ((WAVE, "00120120"), (Rule("0111", 2), "01230"), (Rule("1001", 0), "10010110")):
            for wish in (True, False):
                wanted = [places for places in places_in_order()
                          if is_quiet(Rule(turned_about(rule.table, places), rule.rests), text) is wish]
                self.assertEqual(fewest_bits(rule, text, wish), wanted[0])

    def test_a_new_list(self):
        fewest_bits(WAVE, "012", False).append(7)
        fewest_bits(WAVE, "012", True).append(7)
        self.assertEqual((fewest_bits(WAVE, "012", False), fewest_bits(WAVE, "012", True)), ([], [1]))


class HarmTest(unittest.TestCase):

    def test_some_rules(self):
        for rule in some_rules():
            for text in stands_of(rule):
                wanted = {}
                for place in range(4):
                    other = Rule(turned_about(rule.table, [place]), rule.rests)
                    # As long as they are the same, both go the same way, so
                    # what is not parted until it comes again never is.
                    parted = [beats for beats in range(len(plain_path(rule, text)) + 1)
                              if plain_after(rule, text, beats) != plain_after(other, text, beats)]
                    wanted[place] = parted[0] if parted else None
                self.assertEqual(list(harm_of(rule, text).items()), list(wanted.items()))

    def test_characters_that_are_never_read(self):
        self.assertEqual(harm_of(WAVE, "0"), {0: 1, 1: None, 2: None, 3: None})
        self.assertEqual(harm_of(WAVE, "00"), {0: 1, 1: None, 2: None, 3: None})
        self.assertEqual(harm_of(WAVE, "012"), {0: None, 1: 1, 2: None, 3: None})
        self.assertEqual(harm_of(Rule("1111", 0), "01"), {0: None, 1: None, 2: None, 3: 1})

    def test_read_late(self):
        self.assertEqual(harm_of(WAVE, "2"), {0: 2, 1: None, 2: None, 3: None})
        self.assertEqual(harm_of(Rule("0000", 2), "1"), {0: 4, 1: None, 2: None, 3: None})
        self.assertEqual(harm_of(WAVE, "1000")[3], 2)
        # What is read by the last stand that did not come before alone.
        self.assertEqual(harm_of(Rule("0000", 0), "1"), {0: 2, 1: None, 2: None, 3: None})

    def test_a_new_dict(self):
        harm_of(WAVE, "012").clear()
        self.assertEqual(list(harm_of(WAVE, "012")), [0, 1, 2, 3])


if __name__ == "__main__":
    unittest.main()
