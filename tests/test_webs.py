"""[40] webs."""

import unittest
from math import gcd

from standwaves.errors import NoWalk, Wrong
from standwaves.rules import Rule
from standwaves.webs import Web
from tests.plain import plain_after, plain_stands, plain_turn, some_rules, strange_values

WAVE = Rule("0111")


def plain_windows(rule, p, q):
    """Returns the good windows, each looked at as a part of a long ring."""
    return [row for row in plain_stands(rule, 2 * q + 1)
            if plain_after(rule, row + "0" * (2 * q), q)[q] == row[q - p]]


def plain_web(rule, p, q):
    """Returns the dict of the steps of the web, found by which rows lead where at all."""
    windows = plain_windows(rule, p, q)
    leads = {row: set() for row in plain_stands(rule, 2 * q)}
    for row in windows:
        leads[row[:-1]].add(row[1:])
    far = {row: set(leads[row]) for row in leads}
    grown = True
    while grown:
        grown = False
        for row in far:
            more = far[row].union(*[far[other] for other in far[row]])
            grown = grown or more != far[row]
            far[row] = more
    nodes = [row for row in sorted(far) if row in far[row]]
    return {row: sorted(other for other in leads[row] if row in far[other]) for row in nodes}, far


def plain_period(steps, part):
    """Returns the greatest common divisor of the lengths of closed walks from the first node."""
    here = {part[0]}
    period = 0
    for length in range(1, 3 * len(part) + 1):
        here = {other for row in here for other in steps[row]}
        if part[0] in here:
            period = gcd(period, length)
    return period


def small_webs():
    """Returns tuples (rule, p, q)."""
    few = [(rule, p, 1) for rests in range(3) for rule in Rule.all_of(rests) for p in (-1, 0, 1)]
    return few + [(rule, p, 2) for rule in Rule.all_of(0) for p in range(-2, 3)] + [
        (WAVE, 1, 2), (WAVE, 2, 2), (Rule("0010"), 0, 2), (Rule("1001"), -1, 2), (Rule("0100", 0), 3, 3),
        (Rule("1111", 0), 0, 3)]


class MakingTest(unittest.TestCase):

    def wrong(self, place, *given):
        with self.assertRaises(Wrong) as caught:
            Web(*given)
        self.assertEqual(caught.exception.place, place)
        self.assertIsInstance(caught.exception.place, int)

    def test_properties(self):
        web = Web(Rule("0110", 2), -1, 2)
        self.assertTrue(web.rule == Rule("0110", 2))
        self.assertEqual([web.p, web.q], [-1, 2])

    def test_wrong_rules(self):
        for value in strange_values():
            if not isinstance(value, Rule):
                self.wrong(0, value, 0, 1)
                self.wrong(0, value, "x", None)
        self.wrong(0, Rule, 0, 1)

    def test_wrong_p(self):
        for value in strange_values():
            if isinstance(value, bool) or not isinstance(value, int):
                self.wrong(1, WAVE, value, 1)
                self.wrong(1, WAVE, value, None)
                self.wrong(1, WAVE, value, 0)

    def test_p_out_of_its_bounds(self):
        for p, q in [(2, 1), (-2, 1), (3, 2), (-3, 2), (10 ** 999, 1), (-10 ** 999, 2), (4, 3)]:
            self.wrong(1, WAVE, p, q)

    def test_wrong_q(self):
        for value in strange_values():
            if isinstance(value, bool) or not isinstance(value, int) or value < 1:
                self.wrong(2, WAVE, 0, value)
                self.wrong(2, WAVE, 5, value)
                self.wrong(2, WAVE, -10 ** 40, value)

    def test_equal(self):
        self.assertTrue(Web(WAVE, 1, 1) == Web(Rule("0111"), 1, 1))
        self.assertFalse(Web(WAVE, 1, 1) != Web(Rule("0111"), 1, 1))
        self.assertTrue(Web(WAVE, 1, 1) != Web(WAVE, 0, 1))
        self.assertFalse(Web(WAVE, 1, 1) == Web(WAVE, -1, 1))
        self.assertFalse(Web(WAVE, 1, 1) == Web(WAVE, 1, 2))
        self.assertFalse(Web(WAVE, 1, 1) == Web(Rule("0111", 0), 1, 1))
        self.assertFalse(Web(WAVE, 1, 1) == Web(Rule("0110"), 1, 1))

    def test_equal_to_nothing_else(self):
        web = Web(WAVE, 1, 1)
        for value in strange_values() + [WAVE]:
            self.assertIs(web == value, False)
            self.assertIs(web != value, True)


class WebTest(unittest.TestCase):

    def test_windows(self):
        for rule, p, q in small_webs():
            self.assertEqual(Web(rule, p, q).windows(), plain_windows(rule, p, q))

    def test_nodes_and_steps(self):
        for rule, p, q in small_webs():
            web = Web(rule, p, q)
            steps, _ = plain_web(rule, p, q)
            self.assertEqual(web.steps(), steps)
            self.assertEqual(list(web.steps()), sorted(steps))
            self.assertEqual(web.nodes(), sorted(steps))
            self.assertEqual(len(web), len(steps))

    def test_parts_and_periods(self):
        kinds = set()
        for rule, p, q in small_webs():
            web = Web(rule, p, q)
            steps, far = plain_web(rule, p, q)
            parts = sorted({tuple(other for other in steps if other in far[row] and row in far[other])
                            for row in steps})
            self.assertEqual(web.parts(), [list(part) for part in parts])
            self.assertEqual(web.periods(), [plain_period(steps, part) for part in parts])
            kinds.update(web.periods())
        self.assertIn(1, kinds)
        self.assertTrue([period for period in kinds if period > 1])

    def test_a_web_of_one_node(self):
        web = Web(WAVE, 0, 1)
        self.assertEqual([web.nodes(), web.steps(), len(web)], [["00"], {"00": ["00"]}, 1])
        self.assertEqual([web.parts(), web.periods()], [[["00"]], [1]])

    def test_webs_of_several_parts(self):
        web = Web(Rule("0011", 0), -2, 2)
        self.assertEqual(web.parts(), [["0000"], ["0001", "0010", "0100", "1000"], ["0101", "1010"]])
        self.assertEqual(web.periods(), [1, 4, 2])
        web = Web(Rule("1010", 0), 2, 2)
        self.assertEqual(web.parts(), [["0000"], ["0010", "0100", "1001"], ["1111"]])
        self.assertEqual(web.periods(), [1, 3, 1])

    def test_a_good_window_between_parts_is_no_step(self):
        web = Web(Rule("0111", 0), -1, 1)
        self.assertIn("001", web.windows())
        self.assertEqual(web.steps(), {"00": ["00"], "01": ["10"], "10": ["01"]})
        self.assertEqual([web.parts(), web.periods()], [[["00"], ["01", "10"]], [1, 2]])
        self.assertIs(web.is_closed(["00", "01"]), False)

    def test_an_empty_web(self):
        web = Web(Rule("1111", 0), 0, 1)
        self.assertEqual([web.nodes(), len(web), web.steps(), web.parts(), web.periods()], [[], 0, {}, [], []])
        self.assertIs(web.is_closed([]), False)

    def test_two_rests_and_three_beats(self):
        self.assertEqual(Web(Rule("0111", 2), 1, 2).steps(), plain_web(Rule("0111", 2), 1, 2)[0])
        web = Web(Rule("0110", 0), 1, 3)
        self.assertEqual(web.steps(), plain_web(Rule("0110", 0), 1, 3)[0])

    def test_answers_are_new(self):
        web, other = Web(WAVE, 1, 1), Web(WAVE, 1, 1)
        web.windows().clear()
        web.nodes().clear()
        web.steps()["00"].clear()
        web.steps().clear()
        web.parts()[0].clear()
        web.parts().clear()
        web.periods().clear()
        self.assertEqual(web.windows(), other.windows())
        self.assertEqual(web.nodes(), other.nodes())
        self.assertEqual(web.steps(), other.steps())
        self.assertEqual(web.parts(), other.parts())
        self.assertEqual(web.periods(), other.periods())
        self.assertEqual(len(web), 4)
        lists = list(web.steps().values())
        self.assertEqual(len({id(row) for row in lists}), len(lists))


class WalksTest(unittest.TestCase):

    def test_is_closed(self):
        web = Web(WAVE, 1, 1)
        for thing in [["00"], ["10", "02", "21"], ["21", "10", "02"], ["00", "00"],
                      ["00", "02", "21", "10"], ["10", "02", "21", "10", "02", "21"]]:
            self.assertIs(web.is_closed(thing), True)
        for thing in [["02"], ["10", "02"], ["02", "10", "21"], ["00", "02", "21"], ["10", "00", "21"],
                      ("00",), "00", ["0"], ["000"], ["01"], ["00", None], ["00", ["00"]], [["00"]],
                      ["00", 0], [b"00"], {"00": 1}, {"00"}, ["11"], ["12", "20", "01"]]:
            self.assertIs(web.is_closed(thing), False, thing)

    def test_any_values(self):
        web = Web(WAVE, 1, 1)
        for value in strange_values():
            self.assertIs(web.is_closed(value), False)
            with self.assertRaises(NoWalk) as caught:
                web.stand_of(value)
            self.assertIs(caught.exception.thing, value)

    def test_a_long_walk(self):
        web = Web(WAVE, 1, 1)
        self.assertIs(web.is_closed(["00"] * 9999), True)
        self.assertIs(web.is_closed(["00"] * 9998 + ["02"]), False)
        self.assertEqual(web.stand_of(["10", "02", "21"] * 13), "021" * 13)

    def test_no_walk_has_the_very_value(self):
        web = Web(WAVE, 1, 1)
        for thing in [["02"], ("10", "02", "21"), [], ["02", "10", "21"], ["00", []]]:
            with self.assertRaises(NoWalk) as caught:
                web.stand_of(thing)
            self.assertIs(caught.exception.thing, thing)

    def test_the_way_to_a_walk_and_back(self):
        for rule, p, q in small_webs():
            web = Web(rule, p, q)
            for size in range(1, 5 if rule.rests == 0 else 4):
                for text in plain_stands(rule, size):
                    walk = web.walk_of(text)
                    if plain_after(rule, text, q) == plain_turn(text, p):
                        far = text * (2 * q + 2)
                        at = size * (q + 1)
                        told = [far[at + seat - q:at + seat + q] for seat in range(size)]
                        self.assertEqual(walk, told)
                        self.assertIs(web.is_closed(walk), True)
                        self.assertEqual(web.stand_of(walk), text)
                    else:
                        self.assertIsNone(walk)

    def test_greater_stands_than_windows_and_lesser_ones(self):
        web = Web(WAVE, 1, 2)
        self.assertIsNone(web.walk_of("021"))
        self.assertEqual(web.walk_of("0"), ["0000"])
        web = Web(WAVE, 2, 2)
        self.assertEqual(web.walk_of("021"), ["2102", "1021", "0210"])
        self.assertEqual(web.stand_of(["2102", "1021", "0210"]), "021")
        self.assertEqual(len(web.walk_of("0021" * 10)), 40)
        for rule in some_rules():
            for text in plain_stands(rule, 1):
                told = plain_after(rule, text, 2) == text
                self.assertIs(Web(rule, 1, 2).walk_of(text) is not None, told)

    def test_things_are_not_changed(self):
        web = Web(WAVE, 1, 1)
        walk = ["10", "02", "21"]
        web.is_closed(walk)
        web.stand_of(walk)
        self.assertEqual(walk, ["10", "02", "21"])
        web.walk_of("021").clear()
        self.assertEqual(web.walk_of("021"), walk)


if __name__ == "__main__":
    unittest.main()
