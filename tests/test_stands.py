"""[30] stands."""

import unittest

from standwaves.errors import NoStand
from standwaves.rules import Rule
from standwaves.stands import (
    all_stands, all_turns, from_windows, least_part, least_turn, mirror_of, turned_by,
    turns_between, window_at)
from tests.plain import plain_stands, plain_turn, strange_values

RULES = [Rule("0000", 0), Rule("0000", 1), Rule("0000", 2)]


def small_stands():
    """Returns all stands of up to four seats, and longer ones that repeat."""
    texts = [text for rule in RULES for size in range(1, 5) for text in plain_stands(rule, size)]
    return texts + ["012012", "001001001", "010101", "0011", "0123" * 10, "0" * 40, "2" * 39 + "1"]


class TurningTest(unittest.TestCase):

    def test_turned_by(self):
        for text in small_stands():
            for places in list(range(-9, 10)) + [10 ** 40 + 7, -10 ** 40 - 3]:
                self.assertEqual(turned_by(text, places), plain_turn(text, places))

    def test_turned_by_any_length(self):
        self.assertEqual(turned_by("012", 3 * 10 ** 39 + 1), "201")
        self.assertEqual(turned_by("012", -3 * 10 ** 39 - 1), "120")
        self.assertEqual(turned_by("2", 10 ** 40), "2")

    def test_mirror_of(self):
        self.assertEqual(mirror_of("0012"), "2100")
        self.assertEqual(mirror_of("1"), "1")
        self.assertEqual(mirror_of("01"), "10")

    def test_turns(self):
        for text in small_stands():
            turns = sorted({plain_turn(text, places) for places in range(len(text))})
            self.assertEqual(all_turns(text), turns)
            self.assertEqual(least_turn(text), turns[0])
        self.assertEqual(all_turns("0"), ["0"])
        self.assertEqual(all_turns("10"), ["01", "10"])
        self.assertEqual(all_turns("000"), ["000"])

    def test_turns_are_new(self):
        all_turns("01").clear()
        self.assertEqual(all_turns("01"), ["01", "10"])

    def test_least_part(self):
        for text in small_stands():
            size = len(text)
            parts = [text[:cut] for cut in range(1, size + 1)
                     if size % cut == 0 and text[:cut] * (size // cut) == text]
            self.assertEqual(least_part(text), parts[0])
        self.assertEqual(least_part("00100"), "00100")
        self.assertEqual(least_part("0101010"), "0101010")
        self.assertEqual(least_part("1"), "1")
        self.assertEqual(least_part("11"), "1")

    def test_turns_between(self):
        texts = plain_stands(RULES[1], 3) + plain_stands(RULES[0], 4) + ["0", "1", "01", "10"]
        for text in texts:
            for other in texts:
                if len(text) == len(other):
                    told = [p for p in range(len(text)) if plain_turn(text, p) == other]
                else:
                    told = []
                self.assertEqual(turns_between(text, other), told)
        self.assertEqual(turns_between("000", "000"), [0, 1, 2])
        self.assertEqual(turns_between("00", "000"), [])
        self.assertEqual(turns_between("000", "00"), [])
        self.assertEqual(turns_between("001", "100"), [1])


class WindowsTest(unittest.TestCase):

    def test_window_at(self):
        for text in ["0", "2", "01", "012", "01203", "0123" * 10]:
            for seat in range(len(text)):
                for reach in range(20):
                    told = "".join(text[place % len(text)] for place in range(seat - reach, seat + reach + 1))
                    self.assertEqual(window_at(text, seat, reach), told)
        self.assertEqual(window_at("012", 1, 0), "1")
        self.assertEqual(window_at("01", 0, 3), "1010101")
        self.assertEqual(window_at("1", 0, 19), "1" * 39)

    def test_from_windows_is_the_way_back(self):
        for text in small_stands():
            for reach in (0, 1, 2, 5, 19):
                rows = [window_at(text, seat, reach) for seat in range(len(text))]
                self.assertEqual(from_windows(rows), text)
                self.assertEqual(from_windows(tuple(rows)), text)

    def refused(self, rows):
        with self.assertRaises(NoStand) as caught:
            from_windows(rows)
        self.assertIs(caught.exception.rows, rows)

    def test_no_windows(self):
        for rows in strange_values():
            if not (isinstance(rows, list) and rows == ["0"] * 9999):
                self.refused(rows)
        self.assertEqual(from_windows(["0"] * 9999), "0" * 9999)

    def test_no_windows_by_form(self):
        for rows in [[], (), [""], ["", ""], ["00"], ["0000", "0000"], "0", "000", ["4"], ["a"], ["0", ""],
                     ["0", "000"], ["000", "0"], ["000", "00000"], [b"0"], [["0"]], [("0", "0", "0")], [0],
                     {"0": 1}, {"0"}, ["0", None], ["000", True], ["0 0"], ["0\n0"]]:
            self.refused(rows)

    def test_windows_that_do_not_fit(self):
        for rows in [["010"], ["100"], ["001"], ["201", "012", "121"], ["012", "201", "120"],
                     ["12012", "20120", "01202"], ["101", "011"], ("000", "001")]:
            self.refused(rows)

    def test_each_character_counts(self):
        text = "0120"
        rows = [window_at(text, seat, 3) for seat in range(4)]
        for seat in range(4):
            for place in range(7):
                wrong = list(rows)
                sign = "3" if rows[seat][place] != "3" else "0"
                wrong[seat] = rows[seat][:place] + sign + rows[seat][place + 1:]
                self.refused(wrong)

    def test_rows_are_not_changed(self):
        rows = ["201", "012", "120"]
        from_windows(rows)
        self.assertEqual(rows, ["201", "012", "120"])


class ListTest(unittest.TestCase):

    def test_all_stands(self):
        for rule in RULES:
            for size in range(1, 6):
                self.assertEqual(all_stands(rule.signs, size), plain_stands(rule, size))

    def test_any_signs(self):
        self.assertEqual(all_stands("02", 2), ["00", "02", "20", "22"])
        self.assertEqual(all_stands("1", 4), ["1111"])
        self.assertEqual(all_stands("az~", 1), ["a", "z", "~"])
        self.assertEqual(all_stands("", 2), [])

    def test_as_many_as_are_asked_for(self):
        told = all_stands("01", 11)
        self.assertEqual(len(told), 2048)
        self.assertEqual(told, sorted(set(told)))

    def test_a_stand_is_not_empty(self):
        self.assertEqual(all_stands("01", 0), [])

    def test_the_list_is_new(self):
        all_stands("01", 1).append("x")
        self.assertEqual(all_stands("01", 1), ["0", "1"])


if __name__ == "__main__":
    unittest.main()
