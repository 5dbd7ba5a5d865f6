"""[50] calendars."""

import unittest
from math import gcd

from standwaves.calendars import Calendar
from standwaves.errors import Wrong
from tests.plain import strange_values

FAR = 10 ** 39
NONE = Calendar(1, [], 1, [])
EVERY = Calendar(1, [], 1, [0])


def some_tellings():
    """Returns tuples (start, early, period, rests): plain ones, and others."""
    return [(1, [], 1, []), (1, [], 1, [0]), (1, [], 3, []), (1, [], 3, [0, 1, 2]), (7, [], 1, []),
            (7, [6], 1, []), (7, [3, 1], 2, []), (7, [1, 2, 3, 4, 5, 6], 1, [0]), (7, [1, 2, 3, 4, 6], 4, [3, 0, 2, 1]),
            (5, [1, 2], 4, [1, 3]), (5, [2, 1], 4, [3, 1]), (9, [8, 2], 6, [0, 3]), (9, [3, 6], 6, [3, 0]),
            (9, [3, 6, 7], 3, [0]), (4, [1], 5, [2]), (1, [], 5, [4]), (6, [4], 5, [4]), (20, [1, 19, 4], 6, [1, 2, 4, 5]),
            (20, list(range(1, 20, 2)), 8, [1, 3, 5, 7]), (3, [2], 12, [2, 5, 8, 11]), (3, [1], 12, [2, 5, 8, 10]),
            (1, [], 12, [0, 1, 4, 5, 8, 9])]


def plain_has(telling, number):
    """Returns whether a number is one of the sizes of a telling."""
    start, early, period, rests = telling
    return number in early if number < start else number % period in rests


def sizes_below(telling, most):
    """Returns the sizes of a telling that are below most."""
    return [number for number in range(1, most) if plain_has(telling, number)]


def plain_telling(telling):
    """Returns the plain telling, found by trying the periods and the starts in order."""
    most = telling[0] + 3 * telling[2]
    for period in range(1, telling[2] + 1):
        for start in range(1, telling[0] + 1):
            rests = {number % period for number in range(start, most) if plain_has(telling, number)}
            if all(plain_has(telling, number) == (number % period in rests) for number in range(start, most)):
                return (start, sizes_below(telling, start), period, sorted(rests))
    return None


def told(calendar):
    """Returns the four parts of a Calendar."""
    return (calendar.start, calendar.early, calendar.period, calendar.rests)


class MakingTest(unittest.TestCase):

    def wrong(self, place, *given):
        with self.assertRaises(Wrong) as caught:
            Calendar(*given)
        self.assertEqual(caught.exception.place, place, given)
        self.assertIs(type(caught.exception), Wrong)

    def test_plain_telling(self):
        for telling in some_tellings():
            self.assertEqual(told(Calendar(*telling)), plain_telling(telling), telling)
            start, early, period, rests = telling
            self.assertEqual(told(Calendar(start, tuple(early), period, tuple(rests))), plain_telling(telling))

    def test_keywords(self):
        self.assertEqual(Calendar(start=5, early=[1, 2], period=4, rests=[1, 3]), Calendar(5, [1, 2], 4, [1, 3]))

    def test_no_rest_and_every_rest(self):
        self.assertEqual(told(Calendar(2000, [], 60, [])), (1, [], 1, []))
        self.assertEqual(told(Calendar(2000, [1999], 60, [])), (2000, [1999], 1, []))
        self.assertEqual(told(Calendar(2000, range_list(1, 2000), 60, range_list(0, 60))), (1, [], 1, [0]))
        self.assertEqual(told(Calendar(2000, range_list(1, 1999), 60, range_list(0, 60))),
                         (2000, range_list(1, 1999), 1, [0]))
        self.assertEqual(told(Calendar(2000, [], 60, range_list(0, 60))), (2000, [], 1, [0]))

    def test_start_and_period_of_the_greatest_kind(self):
        self.assertEqual(told(Calendar(2000, range_list(7, 2000, 60), 60, [7])), (1, [], 60, [7]))
        self.assertEqual(told(Calendar(2000, [], 60, [7, 22, 37, 52])), (1988, [], 15, [7]))
        self.assertEqual(told(Calendar(10 ** 999, [], 10 ** 999, [])), (1, [], 1, []))
        self.assertEqual(told(Calendar(10 ** 999, [5], 10 ** 999, [0])), (6, [5], 10 ** 999, [0]))
        self.assertEqual(told(Calendar(10 ** 999, [], 10 ** 998, [0])), (9 * 10 ** 998 + 1, [], 10 ** 998, [0]))

    def test_every_place_takes_values_of_any_kind(self):
        lists = ([], ())
        for value in strange_values():
            if not (type(value) is int and value >= 1):
                self.wrong(0, value, None, None, None)
                self.wrong(2, 3, [1], value, None)
            if value not in lists:
                self.wrong(1, 1, value, None, None)
                if value != [1, 2]:
                    self.wrong(1, 3, value, None, None)
            if value not in lists:
                self.wrong(3, 3, [1], 1, value)

    def test_early_by_its_numbers(self):
        for early in ([0], [3], [4], [-1], [1, 1], (2, 1, 2), [True], [1, True], [1, "2"], [1, None], [[1]], [1, 10 ** 999],
                      [2, False], "12", {1: 2}, {1}, range(1, 3), 1, [1.5]):
            self.wrong(1, 3, early, 0, None)
        self.assertEqual(Calendar(3, [2, 1], 1, [0]), EVERY)

    def test_rests_by_their_numbers(self):
        for rests in ([-1], [3], [0, 0], (1, 2, 1), [True], [False], [0, None], ["0"], [[]], [10 ** 999], "0", {0: 1}, {0},
                      range(3), 0):
            self.wrong(3, 3, [], 3, rests)
        self.assertEqual(Calendar(3, (1, 2), 3, (2, 0, 1)), EVERY)

    def test_the_first_wrong_argument_counts(self):
        self.wrong(0, 0, "", 0, "")
        self.wrong(0, True, [], 1, [0])
        self.wrong(1, 1, [1], 0, "")
        self.wrong(2, 2, [1], 0, "")
        self.wrong(2, 2, [1], True, [0])
        self.wrong(3, 2, [1], 1, [1])

    def test_what_is_passed_is_copied(self):
        early, rests = [1, 2], [1, 3]
        odd = Calendar(5, early, 4, rests)
        early.append(4)
        rests.clear()
        odd.early.append(3)
        odd.rests.append(0)
        self.assertEqual(told(odd), (4, [1, 2], 2, [1]))
        self.assertIs(3 in odd, False)
        self.assertEqual((early, rests), ([1, 2, 4], []))
        self.assertIsNot(odd.early, odd.early)
        self.assertIsNot(odd.rests, odd.rests)


def range_list(*bounds):
    """Returns the numbers of a range as a list."""
    return list(range(*bounds))


class MembersTest(unittest.TestCase):

    def test_in(self):
        for telling in some_tellings():
            calendar = Calendar(*telling)
            for number in range(-3, 60):
                wanted = number >= 1 and plain_has(telling, number)
                self.assertIs(number in calendar, wanted, (telling, number))
                self.assertIs(number not in calendar, not wanted)

    def test_numbers_of_forty_figures(self):
        calendar = Calendar(5, [1, 2], 4, [1, 3])
        self.assertIs(FAR in calendar, False)
        self.assertIs(FAR + 1 in calendar, True)
        self.assertIs(-FAR + 1 in calendar, False)
        self.assertIs(10 ** 999 + 1 in calendar, True)

    def test_any_value(self):
        for value in strange_values():
            wanted = type(value) is int and value >= 1
            self.assertIs(value in EVERY, wanted, value)
            self.assertIs(value in NONE, False)
            self.assertIs(value in Calendar(3, [1, 2], 1, []), wanted and value < 3)
        self.assertIs(EVERY in EVERY, False)


class EqualityTest(unittest.TestCase):

    def test_equal_just_if_the_sizes_are(self):
        for one in some_tellings():
            for other in some_tellings():
                same = sizes_below(one, 60) == sizes_below(other, 60)
                self.assertIs(Calendar(*one) == Calendar(*other), same, (one, other))
                self.assertIs(Calendar(*one) != Calendar(*other), not same)

    def test_unlike_in_one_part_alone(self):
        self.assertNotEqual(Calendar(3, [1], 1, [0]), Calendar(3, [], 1, [0]))
        self.assertNotEqual(Calendar(4, [], 1, [0]), Calendar(3, [], 1, [0]))
        self.assertNotEqual(Calendar(1, [], 3, [0]), Calendar(1, [], 2, [0]))
        self.assertNotEqual(Calendar(1, [], 3, [0]), Calendar(1, [], 3, [1]))

    def test_equal_to_nothing_else(self):
        for value in strange_values() + [(1, [], 1, [0])]:
            self.assertIs(EVERY == value, False)
            self.assertIs(EVERY != value, True)


class SignsTest(unittest.TestCase):

    def test_not(self):
        for telling in some_tellings():
            calendar = Calendar(*telling)
            other = ~calendar
            for number in range(1, 60):
                self.assertIs(number in other, number not in calendar)
            self.assertEqual(~other, calendar)
            self.assertEqual(told(calendar), plain_telling(telling))
        self.assertEqual(~NONE, EVERY)
        self.assertEqual(told(~Calendar(5, [1, 2], 4, [1, 3])), (4, [3], 2, [0]))

    def test_two_together(self):
        for one in some_tellings():
            for other in some_tellings():
                either, both, just_one = (Calendar(*one) | Calendar(*other), Calendar(*one) & Calendar(*other),
                                          Calendar(*one) ^ Calendar(*other))
                for number in range(1, 60):
                    first, second = plain_has(one, number), plain_has(other, number)
                    self.assertIs(number in either, first or second)
                    self.assertIs(number in both, first and second)
                    self.assertIs(number in just_one, first != second)
                within = all(plain_has(other, number) for number in sizes_below(one, 200))
                self.assertIs(Calendar(*one).within(Calendar(*other)), within)

    def test_the_greatest_kind(self):
        one, other = Calendar(2000, [1998], 60, [59]), Calendar(1500, [7], 59, [58])
        both = one & other
        self.assertEqual(told(both), (1, [], 60 * 59, [60 * 59 - 1]))
        self.assertEqual((one | other).period, 60 * 59)
        self.assertEqual((one | other).early[:2], [7, 1533])
        self.assertEqual(((one | other) ^ both) | both, one | other)

    def test_plain_behind_signs(self):
        thirds = Calendar(1, [], 6, [1, 3, 5]) | Calendar(1, [], 6, [0, 2, 4])
        self.assertEqual(told(thirds), (1, [], 1, [0]))
        self.assertEqual(told(Calendar(9, [4], 2, [0]) & Calendar(1, [], 2, [1])), (1, [], 1, []))
        self.assertEqual(told(Calendar(9, [4], 2, [0]) ^ Calendar(1, [], 2, [0])), (9, [2, 6, 8], 1, []))

    def test_within(self):
        self.assertIs(NONE.within(NONE), True)
        self.assertIs(NONE.within(EVERY), True)
        self.assertIs(EVERY.within(NONE), False)
        self.assertIs(Calendar(3, [2], 4, [1]).within(Calendar(2, [], 2, [1])), False)
        self.assertIs(Calendar(3, [], 4, [1]).within(Calendar(2, [], 2, [1])), True)
        self.assertIs(Calendar(1, [], 2, [1]).within(Calendar(3, [], 2, [1])), False)


class QuestionsTest(unittest.TestCase):

    def test_small_numbers(self):
        for telling in some_tellings():
            calendar = Calendar(*telling)
            sizes = sizes_below(telling, 200)
            gaps = [number for number in range(1, 200) if number not in sizes]
            for number in range(1, 50):
                self.assertEqual(calendar.least_from(number), first_of(sizes, number), (telling, number))
                self.assertEqual(calendar.gap_from(number), first_of(gaps, number), (telling, number))
                below = len([size for size in sizes if size < number])
                self.assertEqual(calendar.many_below(number), below, (telling, number))
            for place in range(20):
                wanted = sizes[place] if place < len(sizes) else None
                self.assertEqual(calendar.nth(place), wanted, (telling, place))

    def test_numbers_of_forty_figures(self):
        calendar = Calendar(9, [2, 3], 6, [1, 4, 5])
        self.assertEqual(calendar.least_from(6 * FAR), 6 * FAR + 1)
        self.assertEqual(calendar.least_from(6 * FAR + 5), 6 * FAR + 5)
        self.assertEqual(calendar.gap_from(6 * FAR + 4), 6 * FAR + 6)
        self.assertEqual(calendar.gap_from(6 * FAR + 2), 6 * FAR + 2)
        self.assertEqual(calendar.many_below(6 * FAR), 2 + 3 * FAR - 4)
        self.assertEqual(calendar.many_below(6 * FAR + 5), 2 + 3 * FAR - 4 + 2)
        self.assertEqual(calendar.nth(3 * FAR - 2), 6 * FAR + 1)
        self.assertEqual(calendar.nth(calendar.many_below(FAR)), calendar.least_from(FAR))
        self.assertEqual([NONE.least_from(FAR), EVERY.gap_from(FAR), NONE.nth(FAR), NONE.many_below(FAR)],
                         [None, None, None, 0])
        self.assertEqual([EVERY.least_from(FAR), NONE.gap_from(FAR), EVERY.nth(FAR), EVERY.many_below(FAR)],
                         [FAR, FAR, FAR + 1, FAR - 1])
        few = Calendar(9, [2, 7], 1, [])
        self.assertEqual([few.nth(0), few.nth(1), few.nth(2), few.nth(FAR)], [2, 7, None, None])
        self.assertEqual([few.least_from(7), few.least_from(8), few.many_below(FAR)], [7, None, 2])

    def test_asking_changes_nothing(self):
        calendar = Calendar(9, [2, 3], 6, [1, 4, 5])
        for _ in range(2):
            self.assertEqual([calendar.nth(5), calendar.least_from(6), calendar.gap_from(10), calendar.many_below(20)],
                             [16, 10, 12, 8])
            self.assertEqual(told(calendar), (8, [2, 3], 6, [1, 4, 5]))


def first_of(numbers, least):
    """Returns the first of ascending numbers that is not below least, None if there is none."""
    return next((number for number in numbers if number >= least), None)


class StepsTest(unittest.TestCase):

    def plain_sums(self, steps, most):
        """Returns the sums of one or more steps that are below most, found by adding."""
        sums, last = set(), {0}
        while last:
            last = {number + step for number in last for step in steps if number + step < most} - sums
            sums |= last
        return sorted(sums)

    def test_sums(self):
        for steps in ([1], [2], [40], [3, 5], [5, 3], [4, 4], [6, 10, 15], [6, 10], [8, 12, 20], [2, 40], [3, 40], [7, 7, 14],
                      [1, 40], (39, 40), [11, 13, 17, 19, 23, 29, 31, 37], [40, 39, 38, 37, 36, 35, 34, 33],
                      [9, 6, 9, 6]):
            calendar = Calendar.of_steps(steps)
            sums = self.plain_sums(steps, 2500)
            self.assertEqual([number for number in range(1, 2500) if number in calendar], sums, steps)
            period = 0
            for step in steps:
                period = gcd(period, step)
            self.assertEqual((calendar.period, calendar.rests), (period, [0]))

    def test_no_steps(self):
        self.assertEqual(Calendar.of_steps([]), NONE)
        self.assertEqual(Calendar.of_steps(()), NONE)

    def test_one_step_written_twice(self):
        self.assertEqual(Calendar.of_steps([7, 7]), Calendar.of_steps([7]))
        self.assertEqual(told(Calendar.of_steps((7, 7))), (1, [], 7, [0]))
        self.assertEqual(told(Calendar.of_steps([1, 1])), (1, [], 1, [0]))

    def test_great_steps(self):
        calendar = Calendar.of_steps([39, 40])
        self.assertEqual(calendar.start, 38 * 39)
        self.assertIs(38 * 39 - 1 in calendar, False)
        self.assertEqual(calendar.gap_from(1450), 1481)

    def test_steps_are_not_changed(self):
        steps = [5, 3]
        Calendar.of_steps(steps)
        self.assertEqual(steps, [5, 3])

    def test_off_an_object_too(self):
        self.assertEqual(NONE.of_steps([2]), Calendar(1, [], 2, [0]))


if __name__ == "__main__":
    unittest.main()
