"""[51], [61] and [62] by trying all stands, for all Rules and all sizes that the document bounds."""

import unittest

from standwaves.circles import (
    circle_of, circles_apart, circles_of, longest_way, many_that_come, periods_of, stands_with_fate, way_in)
from standwaves.elders import elders_before, orphans_of
from standwaves.errors import TooMany
from standwaves.rules import Rule
from standwaves.runs import middles_after
from standwaves.sizes import first_shape, gaps_of, sizes_of, sizes_within
from standwaves.walks import good_windows
from tests.plain import plain_beat, plain_stands, plain_turn

CIRCLES = {0: 7, 1: 5, 2: 4}
PACES = {0: 4, 1: 2, 2: 2}


def all_rules():
    """Returns all Rules."""
    return [rule for rests in range(3) for rule in Rule.all_of(rests)]


def plain_laters(rule, size):
    """Returns the dict from all stands of a size, ascending, to the stands a beat later."""
    return {text: plain_beat(rule.table, rule.rests, text) for text in plain_stands(rule, size)}


def plain_paths(laters):
    """Returns the dict from all stands to the tuple of the stands ahead of their circle, and of those in it."""
    paths = {}
    for first in laters:
        path, seen, text = [], set(), first
        while text not in seen:
            seen.add(text)
            path.append(text)
            text = laters[text]
        at = path.index(text)
        paths[first] = (path[:at], path[at:])
    return paths


def begun_at_least(circle):
    """Returns a circle begun at its least stand."""
    at = circle.index(min(circle))
    return circle[at:] + circle[:at]


def counted(things):
    """Returns the list of tuples of things, ascending, and how often they are there."""
    return [(thing, things.count(thing)) for thing in sorted(set(things))]


def plain_middle(rule, row, many):
    """Returns what the middle of a row becomes, its characters one by one."""
    for _ in range(many):
        row = "".join(plain_beat(rule.table, rule.rests, row[at:at + 3])[1] for at in range(len(row) - 2))
    return row


def plain_lengths(rule, p, q, most, middles):
    """Returns for which lengths up to most a closed walk of good windows leads through one with a seat that does not sit."""
    windows = [row for row, middle in middles.items() if middle == row[q - p]]
    rows = sorted({row[:-1] for row in windows} | {row[1:] for row in windows})
    places = {row: place for place, row in enumerate(rows)}
    ahead = {row: [] for row in rows}
    for row in windows:
        ahead[row[:-1]].append(places[row[1:]])
    reached = [1 << place for place in range(len(rows))]
    lengths = []
    for length in range(1, most + 1):
        following = []
        for row in rows:
            ends = 0
            for place in ahead[row]:
                ends |= reached[place]
            following.append(ends)
        reached = following
        if any(set(row) != {"0"} and reached[place] >> place & 1 for place, row in enumerate(rows)):
            lengths.append(length)
    return lengths


class CirclesTest(unittest.TestCase):

    def check(self, rule, size):
        laters = plain_laters(rule, size)
        paths = plain_paths(laters)
        circles = [circle for text, (way, circle) in paths.items() if not way and text == min(circle)]
        self.assertEqual(circles_of(rule, size), circles)
        self.assertEqual(list(periods_of(rule, size).items()), counted([len(circle) for circle in circles]))
        ends = [min(circle) for _, circle in paths.values()]
        self.assertEqual(list(many_that_come(rule, size).items()), counted(ends))
        most = max(len(way) for way, _ in paths.values())
        self.assertEqual(longest_way(rule, size), (most, next(text for text in paths if len(paths[text][0]) == most)))
        fates = {text: (len(way), len(circle)) for text, (way, circle) in paths.items()}
        for early, period in sorted(set(fates.values()))[::2] + [(most + 1, 1), (0, 0)]:
            wanted = [text for text in paths if fates[text] == (early, period)]
            self.assertEqual(stands_with_fate(rule, size, early, period), wanted)
        apart = []
        for circle in circles:
            turns = [begun_at_least([plain_turn(text, places) for text in circle]) for places in range(size)]
            if not any(turn in apart for turn in turns):
                apart.append(circle)
        self.assertEqual(circles_apart(rule, size), apart)
        for text in list(paths)[::7]:
            self.assertEqual((way_in(rule, text), circle_of(rule, text)), (paths[text][0], begun_at_least(paths[text][1])))

    def test_all(self):
        for rule in all_rules():
            for size in range(1, CIRCLES[rule.rests] + 1):
                self.check(rule, size)

    def test_eight_seats(self):
        for rule, texts in ((Rule("0110", 0), ["10010110", "00000001"]), (Rule("0111"), ["01201200", "21021021"]),
                            (Rule("1010", 2), ["01230123", "31200012"])):
            for text in texts:
                path = [text]
                while path[-1] not in path[:-1]:
                    path.append(plain_beat(rule.table, rule.rests, path[-1]))
                at = path.index(path[-1])
                self.assertEqual(way_in(rule, text), path[:at])
                self.assertEqual(circle_of(rule, text), begun_at_least(path[at:-1]))


class EldersTest(unittest.TestCase):

    def test_orphans(self):
        for rule in all_rules():
            for size in range(1, 6 if rule.rests < 2 else 5):
                laters = plain_laters(rule, size)
                come = set(laters.values())
                self.assertEqual(orphans_of(rule, size), [text for text in laters if text not in come])

    def test_elders_before(self):
        for rule in all_rules():
            for size in range(1, 6 if rule.rests < 2 else 5):
                self.check(rule, size)
        for rule in (Rule("0111"), Rule("0110"), Rule("1100"), Rule("0111", 2), Rule("0010", 2), Rule("1001", 0)):
            self.check(rule, 6)

    def check(self, rule, size):
        laters = plain_laters(rule, size)
        texts = list(laters)[::max(1, len(laters) // 5)]
        after = {text: text for text in laters}
        for many in range(5):
            told = list(after.values())
            for text in texts:
                self.assertEqual(elders_before(rule, text, many), told.count(text))
            after = {text: laters[after[text]] for text in laters}


class SizesTest(unittest.TestCase):

    def test_middles_and_windows(self):
        for rule in all_rules():
            for many in range(4 if rule.rests == 0 else 3):
                rows = plain_stands(rule, 2 * many + 1)[::1 if many < 2 else 11]
                middles = middles_after(rule, many)
                self.assertEqual(list(middles), plain_stands(rule, 2 * many + 1))
                self.assertEqual([middles[row] for row in rows], [plain_middle(rule, row, many) for row in rows])
        for rule, p, q in ((Rule("0111"), 2, 1), (Rule("0110", 0), -3, 2), (Rule("1001", 0), 3, 1), (Rule("0010", 2), -2, 1)):
            reach = abs(p)
            wanted = [row for row in plain_stands(rule, 2 * reach + 1)
                      if plain_middle(rule, row[reach - q:reach + q + 1], q) == row[reach - p]]
            self.assertEqual(good_windows(rule, p, q), wanted)

    def test_all_stands_of_few_seats(self):
        for rule in all_rules():
            q = {0: 3, 1: 2, 2: 1}[rule.rests]
            sizes = {(r, p): sizes_of(rule, p, r) for r in range(1, q + 1) for p in range(-r, r + 1)}
            within = sizes_within(rule, q)
            for size in range(1, 7 if rule.rests < 2 else 6):
                laters = plain_laters(rule, size)
                after = {text: text for text in laters}
                found = []
                for r in range(1, q + 1):
                    after = {text: laters[after[text]] for text in laters}
                    for p in sorted(range(-r, r + 1), key=lambda p: (abs(p), -p)):
                        alive = [text for text in laters if set(text) != {"0"} and after[text] == plain_turn(text, p)]
                        self.assertIs(size in sizes[r, p], alive != [])
                        found.extend([(r, p, text) for text in alive[:1]])
                self.assertEqual(first_shape(rule, size, q), found[0] if found else None)
                self.assertIs(size in within, found != [])

    def test_all_lengths_of_walks(self):
        asked = 0
        for rule in all_rules():
            for q in range(1, PACES[rule.rests] + 1):
                middles = {row: plain_middle(rule, row, q) for row in plain_stands(rule, 2 * q + 1)}
                for p in range(-q, q + 1):
                    try:
                        sizes = sizes_of(rule, p, q)
                    except TooMany:
                        continue
                    asked += 1
                    most = sizes.start + 2 * sizes.period + 1
                    lengths = plain_lengths(rule, p, q, most, middles)
                    self.assertEqual([size for size in range(1, most + 1) if size in sizes], lengths, (rule.table, p, q))
                    wanted = [size for size in range(1, sizes.start)
                              if size not in lengths and size % sizes.period in sizes.rests]
                    self.assertEqual(gaps_of(rule, p, q), wanted)
        self.assertGreater(asked, 300)


if __name__ == "__main__":
    unittest.main()
