"""[51] sizes."""

import unittest
from unittest import mock

from standwaves.calendars import Calendar
from standwaves.counts import counts_to
from standwaves.errors import TooMany
from standwaves.rules import Rule
from standwaves.shapes import is_shape
from standwaves.sizes import first_shape, gaps_of, sizes_alike, sizes_of, sizes_within
from standwaves.walks import parts_by
from standwaves.webs import Web
from tests.plain import plain_after, plain_stands, plain_turn, some_rules

WAVE = Rule("0111")
MOST = {0: 8, 1: 6, 2: 4}


def plain_paces(q):
    """Returns the tuples (r, p) in order: p is 0, 1, -1, 2, -2, .."""
    return [(r, p) for r in range(1, q + 1) for p in sorted(range(-r, r + 1), key=lambda p: (abs(p), -p))]


def plain_alive(rule, p, q, size):
    """Returns the least shape that is alive, each stand looked at, None if there is none."""
    for text in plain_stands(rule, size):
        if set(text) != {"0"} and plain_after(rule, text, q) == plain_turn(text, p):
            return text
    return None


def told(calendar):
    """Returns the four parts of a Calendar."""
    return (calendar.start, calendar.early, calendar.period, calendar.rests)


def ring_of_steps(many):
    """Returns steps of a ring of so many rows that are alive."""
    rows = ["1" + f"{number:02d}" for number in range(many)]
    return {row: [rows[(number + 1) % many]] for number, row in enumerate(rows)}


def made_web(steps):
    """Returns what puts these steps in place of those of any good windows."""
    return mock.patch("standwaves.sizes.web_by", lambda windows: (steps, parts_by(steps)))


class SizesTest(unittest.TestCase):

    def test_small_sizes(self):
        rules = [rule for rests in range(3) for rule in Rule.all_of(rests)]
        for rule in rules:
            for p in (-1, 0, 1):
                sizes = sizes_of(rule, p, 1)
                for size in range(1, MOST[rule.rests]):
                    self.assertIs(size in sizes, plain_alive(rule, p, 1, size) is not None, (rule.table, p, size))

    def test_greater_sizes_by_counts(self):
        for rule in some_rules():
            for r, p in plain_paces({0: 4, 1: 2, 2: 2}[rule.rests]):
                if len(Web(rule, p, r)) <= 30:
                    sizes = sizes_of(rule, p, r)
                    for size, many in enumerate(counts_to(rule, p, r, 30), 1):
                        alive = many - is_shape(rule, "0" * size, p, r)
                        self.assertIs(size in sizes, alive > 0, (rule.table, r, p, size))

    def test_stands_that_all_sit_are_not_alive(self):
        self.assertEqual(sizes_of(WAVE, 0, 1), Calendar(1, [], 1, []))
        self.assertEqual(sizes_of(Rule("0000", 0), 1, 2), Calendar(1, [], 1, []))
        self.assertEqual(sizes_of(Rule("1000"), 0, 1), Calendar(1, [], 1, []))
        self.assertEqual(told(sizes_of(Rule("1111", 0), 0, 2)), (1, [], 1, [0]))

    def test_calendars_of_several_kinds(self):
        self.assertEqual(told(sizes_of(WAVE, 1, 1)), (3, [], 1, [0]))
        self.assertEqual(told(sizes_of(Rule("1010", 0), 2, 3)), (1, [], 7, [0]))
        self.assertEqual(told(sizes_of(Rule("1011", 0), 1, 3)), (1, [], 10, [0, 2, 4, 5, 6, 8]))
        self.assertEqual(told(sizes_of(Rule("0110", 0), 0, 2)), (8, [4, 5, 6], 1, [0]))
        late = sizes_of(Rule("0110", 0), 1, 3)
        self.assertEqual((late.start, late.period, len(late.early)), (44, 1, 21))

    def test_more_than_thirty_nodes(self):
        self.assertEqual(len(Web(Rule("0011", 0), -3, 4)), 29)
        self.assertEqual(told(sizes_of(Rule("0011", 0), -3, 4)), (1, [], 7, [0]))
        for rule, p, q, many in ((Rule("1011", 0), 4, 4, 42), (Rule("1111", 0), 0, 4, 256), (Rule("0010", 0), -4, 5, 31)):
            self.assertEqual(len(Web(rule, p, q)), many)
            for ask in (sizes_of, gaps_of):
                with self.assertRaises(TooMany) as caught:
                    ask(rule, p, q)
                self.assertEqual(caught.exception.limit, 30)

    def test_just_thirty_nodes(self):
        # No Rule has such a web, for q within the bounds, so rings of steps stand for them.
        for many in (1, 29, 30, 31):
            with made_web(ring_of_steps(many)):
                if many > 30:
                    self.assertRaises(TooMany, sizes_of, WAVE, 0, 1)
                else:
                    self.assertEqual(told(sizes_of(WAVE, 0, 1)), (1, [], many, [0]))

    def test_a_late_start_of_a_web(self):
        # Two rings that share a row, of n and n - 1 steps, are the slowest of all.
        steps = ring_of_steps(30)
        rows = list(steps)
        steps[rows[-1]] = [rows[0], rows[1]]
        with made_web(steps):
            self.assertEqual(sizes_of(WAVE, 0, 1), Calendar.of_steps([29, 30]))


class WithinTest(unittest.TestCase):

    def test_sizes_of_all_paces(self):
        for rule in some_rules():
            q = {0: 3, 1: 1, 2: 1}[rule.rests]
            if all(len(Web(rule, p, r)) <= 30 for r, p in plain_paces(q)):
                sizes = sizes_within(rule, q)
                for size in range(1, MOST[rule.rests]):
                    found = [1 for r, p in plain_paces(q) if plain_alive(rule, p, r, size) is not None]
                    self.assertIs(size in sizes, found != [], (rule.table, size))

    def test_each_pace_counts(self):
        for rule, q in ((WAVE, 1), (Rule("0010"), 1), (Rule("0100", 2), 1), (Rule("0111", 2), 1), (Rule("0010", 0), 3)):
            wanted = Calendar(1, [], 1, [])
            for r, p in plain_paces(q):
                wanted = wanted | sizes_of(rule, p, r)
            self.assertEqual(sizes_within(rule, q), wanted)
        self.assertEqual(told(sizes_within(WAVE, 1)), (3, [], 1, [0]))
        self.assertEqual(told(sizes_within(Rule("1111", 0), 2)), (1, [], 1, [0]))
        self.assertEqual(told(sizes_within(Rule("1111", 0), 1)), (1, [], 2, [0]))

    def test_more_than_thirty_nodes(self):
        for table, p in (("0011", -4), ("0101", 4), ("0111", 0), ("1100", 2), ("1111", 0)):
            rule = Rule(table, 0)
            self.assertGreater(len(Web(rule, p, 4)), 30)
            self.assertIsInstance(sizes_within(rule, 3), Calendar)
            with self.assertRaises(TooMany) as caught:
                sizes_within(rule, 4)
            self.assertEqual(caught.exception.limit, 30)


class GapsTest(unittest.TestCase):

    def test_gaps(self):
        self.assertEqual(gaps_of(WAVE, 1, 1), [1, 2])
        self.assertEqual(gaps_of(WAVE, 0, 1), [])
        self.assertEqual(gaps_of(Rule("0110", 0), 0, 2), [1, 2, 3, 7])
        self.assertEqual(gaps_of(Rule("0110", 0), 1, 3), list(range(1, 11)) + list(range(15, 22)) + [29, 30, 31, 32, 43])
        self.assertEqual(gaps_of(Rule("1010", 0), 2, 3), [])

    def test_all_gaps_by_their_definition(self):
        some = 0
        for rule in some_rules():
            for r, p in plain_paces({0: 4, 1: 2, 2: 2}[rule.rests]):
                if len(Web(rule, p, r)) <= 30:
                    sizes = sizes_of(rule, p, r)
                    wanted = [size for size in range(1, sizes.start)
                              if size not in sizes and size + sizes.period * sizes.start in sizes]
                    self.assertEqual(gaps_of(rule, p, r), wanted)
                    some += len(wanted) > 0
        self.assertGreater(some, 9)

    def test_sizes_below_the_start_whose_rest_is_none(self):
        # Two rings that share a row, of four and of six steps: 2 is a gap, the odd sizes are none.
        steps = ring_of_steps(6)
        rows = list(steps)
        steps[rows[3]] = [rows[0], rows[4]]
        with made_web(steps):
            self.assertEqual(told(sizes_of(WAVE, 0, 1)), (3, [], 2, [0]))
            self.assertEqual(gaps_of(WAVE, 0, 1), [2])


class FirstShapeTest(unittest.TestCase):

    def test_first_shapes(self):
        for rule in some_rules():
            q = {0: 4, 1: 2, 2: 1}[rule.rests]
            for size in range(1, {0: 7, 1: 6, 2: 5}[rule.rests]):
                wanted = None
                for r, p in plain_paces(q):
                    text = plain_alive(rule, p, r, size)
                    if text is not None:
                        wanted = (r, p, text)
                        break
                self.assertEqual(first_shape(rule, size, q), wanted, (rule.table, rule.rests, size))

    def test_order_of_paces(self):
        self.assertEqual(first_shape(WAVE, 3, 1), (1, 1, "021"))
        self.assertEqual(first_shape(Rule("0010"), 3, 1), (1, 1, "021"))
        self.assertEqual(first_shape(Rule("0100"), 3, 1), (1, -1, "012"))
        self.assertEqual(first_shape(WAVE, 2, 2), None)
        self.assertEqual(first_shape(Rule("1111", 0), 2, 1), (1, 1, "01"))
        self.assertEqual(first_shape(Rule("1111", 0), 1, 2), (2, 0, "1"))

    def test_no_web_is_too_great(self):
        self.assertGreater(len(Web(Rule("1111"), 0, 3)), 30)
        self.assertEqual(first_shape(Rule("1111"), 1, 3), (3, 0, "1"))
        self.assertEqual(first_shape(Rule("0111"), 6, 2), (1, 1, "000021"))


class AlikeTest(unittest.TestCase):

    def plain_unlike(self, one, other, q):
        """Returns the first tuple (r, p, size) at which the sizes differ, up to size 40."""
        for r, p in plain_paces(q):
            first, second = sizes_of(one, p, r), sizes_of(other, p, r)
            for size in range(1, 41):
                if (size in first) != (size in second):
                    return (r, p, size)
        return None

    def test_all_pairs(self):
        rules = some_rules()
        kinds = set()
        for one in rules:
            for other in rules:
                wanted = self.plain_unlike(one, other, 1)
                self.assertEqual(sizes_alike(one, other, 1), wanted)
                kinds.add(None if wanted is None else wanted[1])
        self.assertEqual(kinds, {None, 1, -1})

    def test_more_beats(self):
        for one in Rule.all_of(0)[3:9]:
            for other in Rule.all_of(0)[2:6]:
                self.assertEqual(sizes_alike(one, other, 2), self.plain_unlike(one, other, 2))

    def test_rules_with_unlike_rests(self):
        self.assertEqual(sizes_alike(WAVE, Rule("0111", 2), 1), (1, 1, 3))
        self.assertEqual(sizes_alike(Rule("1000", 0), Rule("0000"), 2), (2, 0, 1))
        self.assertEqual(sizes_alike(Rule("0000"), Rule("1000", 0), 2), (2, 0, 1))
        self.assertIsNone(sizes_alike(WAVE, Rule("0110"), 1))
        self.assertIsNone(sizes_alike(WAVE, WAVE, 1))

    def test_a_difference_at_a_pace_of_zero(self):
        self.assertEqual(sizes_alike(Rule("0000", 0), Rule("0110", 0), 2), (2, 0, 4))

    def test_too_great_a_web_behind_the_first_difference(self):
        few, great = Rule("0000", 0), Rule("1010", 0)
        self.assertGreater(len(Web(great, -2, 4)), 30)
        self.assertLessEqual(max(len(Web(few, p, r)) for r, p in plain_paces(4)), 30)
        self.assertEqual(sizes_alike(few, great, 3)[0], 1)
        for one, other in ((few, great), (great, few), (great, great)):
            with self.assertRaises(TooMany) as caught:
                sizes_alike(one, other, 4)
            self.assertEqual(caught.exception.limit, 30)


if __name__ == "__main__":
    unittest.main()
