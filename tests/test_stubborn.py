"""[90] stubborn."""

import unittest

from standwaves.ends_of_rows import row_beats, row_quiet
from standwaves.errors import NoSeats
from standwaves.rules import Rule
from standwaves.runs import fate_of, still_from
from standwaves.stubborn import are_stubborn, cut_rows, held_after, held_fate, held_quiet
from tests.plain import plain_after, plain_beat, plain_stands, some_rules, strange_values

WAVE = Rule("0111")


def plain_held(rule, text, seats, many):
    """Returns a stand after many beats, at each of which stubborn seats stay as they are."""
    for _ in range(many):
        later = plain_beat(rule.table, rule.rests, text)
        text = "".join("0" if seat in seats else sign for seat, sign in enumerate(later))
    return text


def plain_fate(rule, text, seats):
    """Returns when a stand with stubborn seats comes again, and after how many beats."""
    path = []
    while text not in path:
        path.append(text)
        text = plain_held(rule, text, seats, 1)
    return (path.index(text), len(path) - path.index(text))


def plain_quiet(rule, text, seats):
    """Returns the least number of beats after which all sit and a beat changes nothing."""
    early, period = plain_fate(rule, text, seats)
    for beats in range(early + period):
        now = plain_held(rule, text, seats, beats)
        if set(now) == {"0"} and plain_held(rule, now, seats, 1) == now:
            return beats
    return None


def choices(text):
    """Returns lists of stubborn seats: none, one, two side by side, both ends, each second, all that sit."""
    sitting = [seat for seat, sign in enumerate(text) if sign == "0"]
    ends = [seat for seat in (0, len(text) - 1) if seat in sitting]
    sides = [[seat, seat + 1] for seat in sitting if seat + 1 in sitting]
    found = [[], sitting, sitting[::-1], sitting[::2], sorted(set(ends))] + [[seat] for seat in sitting] + sides[:1]
    return [seats for at, seats in enumerate(found) if seats not in found[:at]]


def some_stands(rule):
    """Returns small stands, and a few of five and of seven seats."""
    small = [text for size in (1, 2, 3) for text in plain_stands(rule, size)]
    return small[::2] + plain_stands(rule, 5)[3::101] + plain_stands(rule, 7)[40::1511]


class AreStubbornTest(unittest.TestCase):

    def test_sitting_seats_in_any_order(self):
        for seats in ([], (), [0], (0,), [2], [0, 2, 4], (4, 0, 2), [4, 2, 0]):
            self.assertIs(are_stubborn("01020", seats), True, seats)

    def test_seats_that_are_none(self):
        for seats in ([1], [0, 1], (3,), [5], [-1], [0, 0], (2, 4, 2), [0, 99], [-5], [10 ** 999], [-10 ** 999],
                      (10 ** 40, 0), [True], [False], [0, False], (False, 2), ["0"], [None], [[0]], [(0,)], [b"0"],
                      [0, "2"], [Rule("0111")], [0, []]):
            self.assertIs(are_stubborn("01020", seats), False, seats)

    def test_other_kinds(self):
        self.assertIs(are_stubborn("000", {0: 1}), False)
        self.assertIs(are_stubborn("000", {0}), False)
        self.assertIs(are_stubborn("000", "0"), False)
        self.assertIs(are_stubborn("000", range(2)), False)
        self.assertIs(are_stubborn("000", 0), False)

    def test_any_value(self):
        for value in strange_values():
            self.assertIs(are_stubborn("01000", value), value in ([], ()) and isinstance(value, (list, tuple)))
            self.assertIs(are_stubborn("01000", [value]), isinstance(value, int) and value == 0
                          and not isinstance(value, bool))
            self.assertIs(are_stubborn("01000", (4, value)), isinstance(value, int) and value == 0
                          and not isinstance(value, bool))

    def test_nothing_is_changed(self):
        seats = [4, 0, 2]
        for told in (are_stubborn("01020", seats), held_after(WAVE, "01020", seats, 3),
                     held_fate(WAVE, "01020", seats), held_quiet(WAVE, "01020", seats), cut_rows("01020", seats)):
            self.assertEqual(seats, [4, 0, 2], told)


class HeldTest(unittest.TestCase):

    def test_after(self):
        for rule in some_rules():
            for text in some_stands(rule):
                for seats in choices(text):
                    for many in (0, 1, 2, 7):
                        wanted = plain_held(rule, text, seats, many)
                        self.assertEqual(held_after(rule, text, seats, many), wanted)
                        self.assertEqual(held_after(rule, text, tuple(seats), many), wanted)

    def test_fate_and_quiet(self):
        for rule in some_rules():
            for text in some_stands(rule):
                for seats in choices(text):
                    self.assertEqual(held_fate(rule, text, seats), plain_fate(rule, text, seats))
                    self.assertEqual(held_quiet(rule, text, seats), plain_quiet(rule, text, seats))

    def test_no_stubborn_seats(self):
        for rule in some_rules():
            for text in some_stands(rule):
                self.assertEqual(held_after(rule, text, [], 5), plain_after(rule, text, 5))
                self.assertEqual(held_fate(rule, text, ()), fate_of(rule, text))
                self.assertEqual(held_quiet(rule, text, []), still_from(rule, text))

    def test_all_seats(self):
        for rests in range(3):
            for rule in Rule.all_of(rests):
                for size in (1, 2, 5):
                    seats = list(range(size))
                    self.assertEqual(held_quiet(rule, "0" * size, seats), 0)
                    self.assertEqual(held_fate(rule, "0" * size, tuple(seats)), (0, 1))
                    self.assertEqual(held_after(rule, "0" * size, seats, 400), "0" * size)
        # All but one by the table of four 1: this one goes on standing up.
        self.assertIsNone(held_quiet(Rule("1111"), "000", [0, 1]))
        self.assertEqual(held_fate(Rule("1111"), "000", [0, 1]), (0, 3))

    def test_a_stubborn_seat_holds_waves(self):
        self.assertEqual(held_fate(WAVE, "0120", []), (0, 4))
        self.assertEqual(held_fate(WAVE, "0120", [0]), (2, 1))
        self.assertEqual([held_quiet(WAVE, "0120", []), held_quiet(WAVE, "0120", [0])], [None, 2])
        self.assertEqual(held_after(WAVE, "0120", [3], 1), "1200")

    def test_forty_seats(self):
        text = "0120" * 10
        for seats in ([], [0], [39, 0], [3, 20, 8]):
            self.assertEqual(held_after(WAVE, text, seats, 400), plain_held(WAVE, text, seats, 400))
            self.assertEqual(held_fate(WAVE, text, seats), plain_fate(WAVE, text, seats))
            self.assertEqual(held_quiet(WAVE, text, seats), plain_quiet(WAVE, text, seats))

    def test_nine_seats(self):
        for rule, text in ((Rule("0110", 0), "100101100"), (Rule("1011", 2), "012300120"), (Rule("0010"), "001200120")):
            for seats in choices(text):
                self.assertEqual(held_fate(rule, text, seats), plain_fate(rule, text, seats))
                self.assertEqual(held_quiet(rule, text, seats), plain_quiet(rule, text, seats))


class CutTest(unittest.TestCase):

    def test_rows(self):
        self.assertEqual(cut_rows("01020", [2]), [(3, "2001")])
        self.assertEqual(cut_rows("01020", [0, 4]), [(1, "102")])
        self.assertEqual(cut_rows("01020", [4]), [(0, "0102")])
        self.assertEqual(cut_rows("01020", [0]), [(1, "1020")])
        self.assertEqual(cut_rows("01020", (4, 2)), [(0, "01"), (3, "2")])
        self.assertEqual(cut_rows("000012", [1, 2]), [(3, "0120")])
        self.assertEqual(cut_rows("00120012", (5 - 1, 1)), [(2, "12"), (5, "0120")])
        self.assertEqual(cut_rows("0010", [3, 0]), [(1, "01")])

    def test_no_rows(self):
        self.assertEqual([cut_rows("01020", []), cut_rows("01020", ()), cut_rows("0", []), cut_rows("0", [0])], [[]] * 4)
        self.assertEqual([cut_rows("00", [1, 0]), cut_rows("0000", (2, 0, 1, 3))], [[], []])
        self.assertEqual([cut_rows("00", [1]), cut_rows("10", [1])], [[(0, "0")], [(0, "1")]])

    def test_each_row_by_its_seats(self):
        for text in ("0", "00", "012", "0000", "01200", "0010020", "2001000"):
            size = len(text)
            for seats in choices(text):
                if seats:
                    wanted = []
                    for first in range(size):
                        if first not in seats and (first - 1) % size in seats:
                            row = ""
                            while (first + len(row)) % size not in seats:
                                row += text[(first + len(row)) % size]
                            wanted.append((first, row))
                    self.assertEqual(cut_rows(text, seats), wanted)

    def test_between_stubborn_seats_a_ring_is_rows(self):
        for rule in some_rules():
            for text in some_stands(rule):
                for seats in choices(text)[1:]:
                    for many in (1, 2, 6):
                        later = plain_held(rule, text, seats, many)
                        rows = [(first, row_beats(rule, row, many)) for first, row in cut_rows(text, seats)]
                        self.assertEqual(cut_rows(later, seats), rows)
                    told = [row_quiet(rule, row) for _, row in cut_rows(text, seats)]
                    if seats:
                        wanted = None if None in told else max(told, default=0)
                        self.assertEqual(held_quiet(rule, text, seats), wanted)

    def test_new_lists(self):
        cut_rows("01020", [2]).append("x")
        cut_rows("01020", []).append("x")
        self.assertEqual((cut_rows("01020", [2]), cut_rows("01020", [])), ([(3, "2001")], []))


class NoSeatsTest(unittest.TestCase):

    def check(self, text, seats):
        for call in (lambda: held_after(WAVE, text, seats, 0), lambda: held_after(WAVE, text, seats, 3),
                     lambda: held_fate(WAVE, text, seats), lambda: held_quiet(WAVE, text, seats),
                     lambda: cut_rows(text, seats)):
            with self.assertRaises(NoSeats) as caught:
                call()
            self.assertIs(type(caught.exception), NoSeats)
            self.assertIs(caught.exception.seats, seats)

    def test_wrong_seats(self):
        for seats in ([1], [0, 0], [5], [-1], [True], [False], (10 ** 999,), [-10 ** 999], "0", "", None, 0, {0: 0},
                      {0}, range(1), [[0]], ["0"], (0, None), [3, 0], b""):
            self.check("01020", seats)

    def test_any_value(self):
        for value in strange_values():
            if value not in ([], ()) or not isinstance(value, (list, tuple)):
                self.check("01020", value)


if __name__ == "__main__":
    unittest.main()
