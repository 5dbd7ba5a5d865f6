"""[5] to [11], as far as the files that are there go."""

import unittest

from standwaves.calendars import Calendar
from standwaves.circles import (
    circle_of, circles_apart, circles_of, is_circle, longest_way, many_that_come, periods_of,
    stands_with_fate, way_in)
from standwaves.counts import counts_to, many_alive, many_shapes, many_turns, nth_shape, shape_number
from standwaves.elders import (
    elders_before, elders_of, is_orphan_row, least_elder, many_elders, orphan_row, orphans_of)
from standwaves.ends import end_of, last_standing, late_stand, moving_from, quiet_after, same_end
from standwaves.rules import Rule
from standwaves.runs import (
    after, fate_of, late_after, path_of, row_after, standers, still_from, turning_fate)
from standwaves.shapes import is_basic, is_shape, paces, shapes_of
from standwaves.sizes import first_shape, gaps_of, sizes_alike, sizes_of, sizes_within
from standwaves.spread import (
    all_heal, apart_pair, changed_seat, healed_after, matters_after, spread_of, unlike_seats)
from standwaves.stands import (
    all_turns, from_windows, least_part, least_turn, mirror_of, turned_by, turns_between, window_at)
from standwaves.turning import (
    are_heights, changing_stand, heights_of, is_even, keeps_turning, many_with, nth_with, place_with, steps_of,
    turning_number)
from standwaves.waves import (
    all_standing, beats_of, comes_from, how_often, last_beat, next_standing, standing_calendar, stands_at)
from standwaves.webs import Web
from tests.plain import plain_stands, some_rules

WAVE = Rule("0111")


def some_stands(rule):
    """Returns stands of one seat, of two, of three, and greater ones."""
    last = rule.signs[-1]
    small = [text for size in (1, 2, 3) for text in plain_stands(rule, size)]
    return small + ["0010" + last, "1000" + last + "0", "0110" + last + "00"]


class WindowsTest(unittest.TestCase):
    """[5]"""

    def test_a_seat_depends_on_its_window_alone(self):
        for rule in some_rules():
            for text in some_stands(rule) + ["01" * 20]:
                for q in (0, 1, 2, 3, 7):
                    later = after(rule, text, q)
                    told = [row_after(rule, window_at(text, seat, q), q) for seat in range(len(text))]
                    self.assertEqual(told, list(later))


class WalksTest(unittest.TestCase):
    """[6]"""

    def test_shapes_are_closed_walks(self):
        for rule in some_rules():
            for q in range(1, 3 if rule.rests < 2 else 2):
                for p in range(-q, q + 1):
                    web = Web(rule, p, q)
                    for text in some_stands(rule):
                        told = is_shape(rule, text, p, q)
                        self.assertIs(web.walk_of(text) is not None, told)
                        rows = [window_at(text, seat, q)[:-1] for seat in range(len(text))]
                        self.assertIs(web.is_closed(rows), told)


    def test_counts_are_those_of_closed_walks(self):
        for rule in some_rules():
            for p in (-1, 0, 1):
                steps = Web(rule, p, 1).steps()
                for size in (1, 2, 5):
                    walks = [[row] for row in steps]
                    for _ in range(size):
                        walks = [walk + [row] for walk in walks for row in steps[walk[-1]]]
                    closed = [walk for walk in walks if walk[0] == walk[-1]]
                    self.assertEqual(many_shapes(rule, p, 1, size), len(closed))


class CalendarsTest(unittest.TestCase):
    """[7]"""

    def test_sizes_go_by_rests(self):
        for rests in range(3):
            for rule in Rule.all_of(rests):
                for p in (-1, 0, 1):
                    sizes = sizes_of(rule, p, 1)
                    for size in range(sizes.start, sizes.start + 2 * sizes.period):
                        alive = many_alive(rule, p, 1, size) > 0
                        self.assertIs(alive, size % sizes.period in sizes.rests)
                        self.assertIs(many_alive(rule, p, 1, size + sizes.period) > 0, alive)
                    if sizes.start > 1:
                        last = sizes.start - 1
                        self.assertIs(many_alive(rule, p, 1, last) > 0, last in sizes)
                        self.assertIsNot(last in sizes, last % sizes.period in sizes.rests)


class TurningTest(unittest.TestCase):
    """[8]"""

    def test_one_rest(self):
        for rule in Rule.all_of(1):
            kept = rule.table[1] == "1" and rule.table[2] == "1"
            self.assertIs(keeps_turning(rule), kept)
            three = plain_stands(rule, 3)
            changed = [text for text in three
                       if turning_number(rule, rule.ring_after(text)) != turning_number(rule, text)]
            self.assertIs(changed == [], kept)
            self.assertEqual(changing_stand(rule), None if kept else changed[0])
            if kept:
                for text in some_stands(rule) + ["012" * 13, "0120" * 10, "00012221110002220111"]:
                    for later in (1, 2, 9):
                        self.assertEqual(turning_number(rule, after(rule, text, later)), turning_number(rule, text))


class StillTest(unittest.TestCase):
    """[9]"""

    def test_still_in_the_end(self):
        stands = [text for size in range(1, 7) for text in plain_stands(WAVE, size)]
        for text in stands + ["0" * 39 + "1", "2012012102102000", "012" * 6 + "0" + "210" * 6, "01" * 20]:
            beats = quiet_after(text)
            self.assertIs(beats is not None, turning_number(WAVE, text) == 0)
            if beats is not None:
                self.assertLessEqual(beats, len(text) // 2 + 2)
                self.assertIs(WAVE.is_still(after(WAVE, text, beats)), True)
                self.assertIs(beats == 0 or not WAVE.is_still(after(WAVE, text, beats - 1)), True)
            if len(text) < 6:
                self.assertEqual(still_from(WAVE, text), beats)


class SidesTest(unittest.TestCase):
    """[10]"""

    def test_rules(self):
        for rule in some_rules():
            other = rule.mirrored()
            for text in some_stands(rule):
                back = mirror_of(text)
                self.assertEqual(other.ring_after(back), mirror_of(rule.ring_after(text)))
                self.assertEqual(other.inner_after(back), mirror_of(rule.inner_after(text)))
                self.assertIs(other.stirs(back), rule.stirs(text))
                self.assertIs(other.is_still(back), rule.is_still(text))
            for left in rule.signs:
                for seat in rule.signs:
                    for right in rule.signs:
                        self.assertEqual(other(right, seat, left), rule(left, seat, right))

    def test_stands(self):
        for text in some_stands(Rule("0111")):
            back, size = mirror_of(text), len(text)
            self.assertEqual(turned_by(back, -2), mirror_of(turned_by(text, 2)))
            self.assertEqual(all_turns(back), sorted(mirror_of(turn) for turn in all_turns(text)))
            self.assertEqual(least_turn(least_part(back) * (size // len(least_part(back)))), least_turn(back))
            self.assertEqual(len(least_part(back)), len(least_part(text)))
            for seat in range(size):
                self.assertEqual(window_at(back, size - 1 - seat, 4), mirror_of(window_at(text, seat, 4)))
            rows = [mirror_of(window_at(text, seat, 1)) for seat in reversed(range(size))]
            self.assertEqual(from_windows(rows), back)
            turned = turned_by(text, 1)
            told = sorted(-places % size for places in turns_between(text, turned))
            self.assertEqual(turns_between(back, mirror_of(turned)), told)

    def test_runs(self):
        for rule in some_rules():
            other = rule.mirrored()
            for text in some_stands(rule):
                back, size = mirror_of(text), len(text)
                self.assertEqual(path_of(other, back), [mirror_of(stand) for stand in path_of(rule, text)])
                self.assertEqual(fate_of(other, back), fate_of(rule, text))
                self.assertEqual(turning_fate(other, back)[:2], turning_fate(rule, text)[:2])
                self.assertEqual(late_after(other, back, 10 ** 9), mirror_of(late_after(rule, text, 10 ** 9)))
                self.assertEqual(still_from(other, back), still_from(rule, text))
                self.assertEqual(standers(other, back, 4), standers(rule, text, 4))
                told = sorted((q, -p % size) for q, p in paces(rule, text, 4))
                self.assertEqual(paces(other, back, 4), told)
                self.assertIs(is_basic(other, back, -1, 2), is_basic(rule, text, 1, 2))

    def test_spread(self):
        for rule in some_rules():
            other = rule.mirrored()
            self.assertEqual(matters_after(other, 1), sorted(-d for d in matters_after(rule, 1)))
            for d in (-1, 0, 1):
                self.assertIs(apart_pair(other, 1, -d) is None, apart_pair(rule, 1, d) is None)
            self.assertIs(all_heal(other, 2), all_heal(rule, 2))
            for text in some_stands(rule):
                back, at = mirror_of(text), len(text) - 1
                changed = changed_seat(text, 0, "1")
                self.assertEqual(changed_seat(back, at, "1"), mirror_of(changed))
                self.assertEqual(spread_of(other, back, at, "1", 4), spread_of(rule, text, 0, "1", 4))
                self.assertEqual(healed_after(other, back, at, "1"), healed_after(rule, text, 0, "1"))
                told = sorted(at - seat for seat in unlike_seats(rule, text, changed, 2))
                self.assertEqual(unlike_seats(other, back, mirror_of(changed), 2), told)

    def test_webs_and_shapes(self):
        for rule in some_rules():
            other = rule.mirrored()
            for p in (-1, 0, 1):
                web, back = Web(rule, p, 1), Web(other, -p, 1)
                self.assertEqual(back.windows(), sorted(mirror_of(row) for row in web.windows()))
                self.assertEqual(back.nodes(), sorted(mirror_of(row) for row in web.nodes()))
                self.assertEqual(sorted(back.periods()), sorted(web.periods()))
                told = sorted(mirror_of(text) for text in shapes_of(rule, p, 1, 5))
                self.assertEqual(shapes_of(other, -p, 1, 5), told)


    def test_sizes_and_counts(self):
        for rule in some_rules():
            other = rule.mirrored()
            self.assertEqual(sizes_within(other, 1), sizes_within(rule, 1))
            self.assertEqual(sizes_alike(rule, other, 1) is None, sizes_alike(other, rule, 1) is None)
            self.assertIs(first_shape(other, 4, 1) is None, first_shape(rule, 4, 1) is None)
            for p in (-1, 0, 1):
                self.assertEqual(sizes_of(other, -p, 1), sizes_of(rule, p, 1))
                self.assertEqual(gaps_of(other, -p, 1), gaps_of(rule, p, 1))
                self.assertEqual(counts_to(other, -p, 1, 12), counts_to(rule, p, 1, 12))
                self.assertEqual(many_alive(other, -p, 1, 12), many_alive(rule, p, 1, 12))
                self.assertEqual(many_turns(other, -p, 1, 12), many_turns(rule, p, 1, 12))
                many = many_shapes(rule, p, 1, 5)
                told = sorted(mirror_of(nth_shape(rule, p, 1, 5, number)) for number in range(many))
                self.assertEqual([nth_shape(other, -p, 1, 5, number) for number in range(many)], told)
                self.assertEqual([shape_number(other, -p, 1, text) for text in told], list(range(many)))

    def test_elders(self):
        for rule in some_rules():
            other = rule.mirrored()
            for text in some_stands(rule):
                back = mirror_of(text)
                self.assertEqual(elders_of(other, back), sorted(mirror_of(elder) for elder in elders_of(rule, text)))
                self.assertEqual(many_elders(other, back), many_elders(rule, text))
                self.assertIs(least_elder(other, back) is None, least_elder(rule, text) is None)
                self.assertIs(is_orphan_row(other, back), is_orphan_row(rule, text))
                if len(text) < 4:
                    self.assertEqual(elders_before(other, back, 3), elders_before(rule, text, 3))
            self.assertEqual(orphans_of(other, 3), sorted(mirror_of(text) for text in orphans_of(rule, 3)))
            row, turned = orphan_row(rule), orphan_row(other)
            self.assertEqual(row and len(row), turned and len(turned))


    def test_circles(self):
        for rule in some_rules():
            other = rule.mirrored()
            for text in some_stands(rule):
                back = mirror_of(text)
                circle = [mirror_of(stand) for stand in circle_of(rule, text)]
                self.assertEqual(sorted(circle_of(other, back)), sorted(circle))
                self.assertIs(is_circle(other, circle), True)
                self.assertEqual(way_in(other, back), [mirror_of(stand) for stand in way_in(rule, text)])
            self.assertEqual(periods_of(other, 3), periods_of(rule, 3))
            self.assertEqual(sorted(many_that_come(other, 3).values()), sorted(many_that_come(rule, 3).values()))
            self.assertEqual(longest_way(other, 3)[0], longest_way(rule, 3)[0])
            self.assertEqual(len(circles_apart(other, 3)), len(circles_apart(rule, 3)))
            told = sorted(mirror_of(text) for text in stands_with_fate(rule, 3, 1, 1))
            self.assertEqual(stands_with_fate(other, 3, 1, 1), told)

    def test_turning(self):
        for rule in (WAVE, Rule("0010"), Rule("0111", 2), Rule("0011", 2)):
            other = rule.mirrored()
            self.assertIs(keeps_turning(other), keeps_turning(rule))
            for text in some_stands(rule):
                back = mirror_of(text)
                steps = [step if step == 2 else -step for step in steps_of(rule, text)[:-1]]
                self.assertEqual(steps_of(other, back)[:-1], steps[::-1])
                self.assertIs(is_even(other, back), is_even(rule, text))
                if is_even(rule, text):
                    number = turning_number(rule, text)
                    self.assertEqual(turning_number(other, back), -number)
                    self.assertIs(nth_with(other, len(text), -number, place_with(other, back)) == back, True)
                    self.assertEqual(many_with(other, len(text), -number), many_with(rule, len(text), number))
                heights = heights_of(rule, text)
                self.assertIs(heights_of(other, back) is None, heights is None)
                if heights is not None:
                    self.assertIs(are_heights(other, back, heights[::-1]), True)

    def test_ends_and_waves(self):
        for text in some_stands(WAVE):
            back, size = mirror_of(text), len(text)
            number, beats = end_of(text)
            self.assertEqual(end_of(back), (-number, beats))
            self.assertEqual([quiet_after(back), moving_from(back)], [quiet_after(text), moving_from(text)])
            if number == 0:
                self.assertEqual(last_standing(back), sorted(size - 1 - seat for seat in last_standing(text)))
            for beat in (0, 1, 2, 10 ** 39):
                self.assertEqual(late_stand(back, beat), mirror_of(late_stand(text, beat)))
                self.assertEqual(all_standing(back, beat), sorted(size - 1 - seat for seat in all_standing(text, beat)))
                for seat in range(size):
                    turned = size - 1 - seat
                    self.assertIs(stands_at(back, turned, beat), stands_at(text, seat, beat))
                    sides = [{"left": "right", "right": "left"}[side] for side in comes_from(text, seat, beat)]
                    self.assertEqual(comes_from(back, turned, beat), sorted(sides))
                    self.assertEqual(next_standing(back, turned, beat), next_standing(text, seat, beat))
                    self.assertEqual(how_often(back, turned, beat), how_often(text, seat, beat))
            self.assertEqual(standing_calendar(back, size - 1), standing_calendar(text, 0))
            self.assertEqual(beats_of(back, size - 1, 5), beats_of(text, 0, 5))
            for other in ("100", "012", "021", "000"):
                self.assertIs(same_end(back, mirror_of(other)), same_end(text, other))


class RepeatsTest(unittest.TestCase):
    """[11]"""

    def test_repeats(self):
        for rule in some_rules():
            for text in some_stands(rule):
                for times in (2, 3):
                    more = text * times
                    self.assertEqual(rule.ring_after(more), rule.ring_after(text) * times)
                    self.assertEqual(after(rule, more, 5), after(rule, text, 5) * times)
                    self.assertEqual(fate_of(rule, more), fate_of(rule, text))
                    self.assertEqual(path_of(rule, more), [stand * times for stand in path_of(rule, text)])
                    self.assertEqual(still_from(rule, more), still_from(rule, text))
                    self.assertEqual(turning_fate(rule, more), turning_fate(rule, text))
                    self.assertIs(rule.is_still(more), rule.is_still(text))
                    self.assertIs(rule.stirs(more), rule.stirs(text))
                    self.assertEqual(least_part(more), least_part(text))
                    self.assertIs(is_shape(rule, more, 1, 2), is_shape(rule, text, 1, 2))

    def test_sizes(self):
        for rule in some_rules():
            for p in (-1, 1):
                sizes = sizes_of(rule, p, 1)
                for size in range(1, 12):
                    if size in sizes:
                        self.assertTrue(Calendar(1, [], size, [0]).within(sizes))

    def test_circles_and_turning(self):
        for rule in some_rules():
            for text in some_stands(rule)[::2]:
                for times in (2, 3):
                    if len(text) * times < 9:
                        circle = [stand * times for stand in circle_of(rule, text)]
                        self.assertEqual(circle_of(rule, text * times), circle)
                        self.assertEqual(way_in(rule, text * times), [stand * times for stand in way_in(rule, text)])
                        self.assertIs(is_circle(rule, circle), True)
            self.assertLessEqual(set(periods_of(rule, 1)), set(periods_of(rule, 3)))
            self.assertLessEqual({text * 3 for text in many_that_come(rule, 1)}, set(many_that_come(rule, 3)))
            self.assertLessEqual({circle[0] * 2 for circle in circles_of(rule, 2)},
                                 {circle[0] for circle in circles_of(rule, 4)})

    def test_ends_and_waves(self):
        for text in some_stands(WAVE):
            number, beats = end_of(text)
            for times in (2, 3):
                more = text * times
                self.assertEqual(turning_number(WAVE, more), number * times)
                self.assertEqual(end_of(more), (number * times, beats))
                heights = heights_of(WAVE, text)
                self.assertEqual(heights_of(WAVE, more), None if heights is None else heights * times)
                self.assertEqual(late_stand(more, 10 ** 39), late_stand(text, 10 ** 39) * times)
                if number == 0:
                    self.assertEqual(last_beat(more, len(text)), last_beat(text, 0))
                self.assertEqual(standing_calendar(more, len(text)), standing_calendar(text, 0))
                self.assertIs(same_end(more, "012" * times), same_end(text, "012"))

    def test_elders_and_numbers(self):
        for rule in some_rules():
            for text in some_stands(rule)[::3]:
                twice = elders_of(rule, text * 2)
                for elder in elders_of(rule, text):
                    self.assertIn(elder * 2, twice)
                for p in (-1, 0, 1):
                    number = shape_number(rule, p, 1, text)
                    self.assertIs(shape_number(rule, p, 1, text * 2) is None, number is None)


if __name__ == "__main__":
    unittest.main()
