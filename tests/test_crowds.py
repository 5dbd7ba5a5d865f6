"""crowds: who stands by the Rule("0111"), as numbers; and [71], [72] by runs beat by beat."""

import random
import unittest

from standwaves.crowds import first_crowds, has_seat, seats_of, stand_of, turned_crowd
from standwaves.ends import end_of, last_standing, late_stand, moving_from, quiet_after, same_end
from standwaves.errors import Turns
from standwaves.rules import Rule
from standwaves.waves import (
    all_standing, beats_of, comes_from, how_often, last_beat, next_standing, standing_calendar, stands_at)
from tests.plain import plain_beat, plain_stands, plain_turn

WAVE = Rule("0111")
FAR = 10 ** 39


class Run:
    """A stand run beat by beat until it comes again."""

    def __init__(self, text):
        self.stands = []
        places = {}
        while text not in places:
            places[text] = len(self.stands)
            self.stands.append(text)
            text = plain_beat("0111", 1, text)
        self.early = places[text]
        self.period = len(self.stands) - self.early

    def at(self, beat):
        """Returns the stand after so many beats."""
        if beat < len(self.stands):
            return self.stands[beat]
        return self.stands[self.early + (beat - self.early) % self.period]

    def standing(self, beat):
        """Returns the seats that stand at a beat."""
        return [seat for seat, sign in enumerate(self.at(beat)) if sign == "1"]

    def many_below(self, seat, beat):
        """Returns at how many beats below one a seat stands."""
        first = [stand[seat] for stand in self.stands[:beat]]
        if beat <= len(self.stands):
            return first.count("1")
        again = [stand[seat] for stand in self.stands[self.early:]]
        rounds, rest = divmod(beat - len(self.stands), self.period)
        return first.count("1") + rounds * again.count("1") + again[:rest].count("1")

    def from_on(self, seat, beat):
        """Returns the least beat from one on at which a seat stands."""
        for more in range(len(self.stands) + self.period):
            if self.at(beat + more)[seat] == "1":
                return beat + more
        return None

    def number(self):
        """Returns the turning number, by the steps."""
        text = self.stands[0]
        steps = [(int(right) - int(own)) % 3 for own, right in zip(text, text[1:] + text[0])]
        return sum(-1 if step == 2 else step for step in steps) // 3

    def first_turned(self, places):
        """Returns the least number of beats from which on each beat turns the stand by places."""
        return next(beat for beat in range(len(self.stands) + 1)
                    if self.at(beat + 1) == plain_turn(self.at(beat), places))


def drawn(many):
    """Returns stands of 8 to 40 seats: of any signs, of few that stand, and of long waves."""
    draw = random.Random("standwaves")
    stands = []
    for number in range(many):
        size = draw.randint(8, 40)
        kind = number % 4
        if kind == 0:
            text = "".join(draw.choice("012") for _ in range(size))
        elif kind == 1:
            text = "".join(draw.choice("000000012") for _ in range(size))
        else:
            # Heights that go up or down, or stay, mostly one way.
            ways = [1, 1, 0, -1] if kind == 2 else [-1, -1, 0, 1, 0, 0]
            heights = [0]
            while len(heights) < size:
                heights.append(heights[-1] + draw.choice(ways))
            text = "".join(str(height % 3) for height in heights)
        stands.append(text)
    return stands


class CrowdsTest(unittest.TestCase):

    def test_first_crowds(self):
        for size in range(1, 7):
            for text in plain_stands(WAVE, size):
                run = Run(text)
                crowds = first_crowds(text, size + 3)
                self.assertEqual(len(crowds), size + 4)
                self.assertEqual([seats_of(crowd, size) for crowd in crowds], [run.standing(beat) for beat in range(size + 4)])
                for beat in range(1, size + 4):
                    self.assertEqual(stand_of(crowds[beat], crowds[beat - 1], size), run.at(beat))
        self.assertEqual(first_crowds("0120", 0), [0x0100])

    def test_seats(self):
        for text in ("0", "1", "0110", "1001", "10" * 20, "0" * 40):
            crowd, size = int(text, 16), len(text)
            self.assertEqual(seats_of(crowd, size), [seat for seat in range(size) if text[seat] == "1"])
            for seat in range(size):
                self.assertIs(has_seat(crowd, seat, size), text[seat] == "1")
            for places in (-size - 1, -1, 0, 1, 3, size):
                self.assertEqual(seats_of(turned_crowd(crowd, places, size), size),
                                 [seat for seat, sign in enumerate(plain_turn(text, places)) if sign == "1"])


class RunsTest(unittest.TestCase):

    def check_ends(self, text, run, far):
        number, size = run.number(), len(text)
        quiet = [beat for beat, stand in enumerate(run.stands) if set(stand) == {"0"}]
        self.assertEqual(quiet_after(text), quiet[0] if quiet else None)
        moving = None if number == 0 else run.first_turned(-1 if number > 0 else 1)
        self.assertEqual(moving_from(text), moving)
        self.assertEqual(end_of(text), (number, quiet[0] if number == 0 else moving))
        for beat in list(range(size // 2 + 5)) + far:
            self.assertEqual(late_stand(text, beat), run.at(beat))
            self.assertEqual(all_standing(text, beat), run.standing(beat))
        if number == 0:
            last = [run.standing(beat) for beat in range(len(run.stands)) if run.standing(beat)]
            self.assertEqual(last_standing(text), last[-1] if last else [])
        else:
            with self.assertRaises(Turns) as caught:
                last_standing(text)
            self.assertEqual(caught.exception.number, number)

    def check_seat(self, text, seat, run, beats):
        for beat in beats:
            self.assertIs(stands_at(text, seat, beat), run.at(beat)[seat] == "1")
            sides = [] if beat == 0 or run.at(beat)[seat] != "1" else [
                side for side, other in (("left", seat - 1), ("right", seat + 1))
                if run.at(beat - 1)[other % len(text)] == "1"]
            self.assertEqual(comes_from(text, seat, beat), sides)
            self.assertEqual(next_standing(text, seat, beat), run.from_on(seat, beat))
            self.assertEqual(how_often(text, seat, beat), run.many_below(seat, beat))
        told = []
        beat = run.from_on(seat, 0)
        while beat is not None and len(told) < 60:
            told.append(beat)
            beat = run.from_on(seat, beat + 1)
        for many in (1, 7, 60):
            self.assertEqual(beats_of(text, seat, many), told[:many])
        calendar = standing_calendar(text, seat)
        for beat in list(range(1, 2 * len(text) + 9)) + beats[-2:]:
            self.assertIs(beat in calendar, beat > 0 and run.at(beat)[seat] == "1")
        if run.number() == 0:
            self.assertEqual(last_beat(text, seat), told[-1] if told else None)
        else:
            with self.assertRaises(Turns) as caught:
                last_beat(text, seat)
            self.assertEqual(caught.exception.number, run.number())

    def test_all_stands_of_few_seats(self):
        for size in range(1, 6):
            for text in plain_stands(WAVE, size):
                run = Run(text)
                self.check_ends(text, run, [FAR, FAR + 1])
                for seat in range(size):
                    self.check_seat(text, seat, run, list(range(size + 4)) + [FAR, FAR + 1])

    def test_ends_of_all_stands_of_some_more_seats(self):
        for size in (6, 7):
            for text in plain_stands(WAVE, size):
                self.check_ends(text, Run(text), [10 * FAR - 1])

    def test_drawn_stands(self):
        draw = random.Random("beats")
        for text in drawn(120):
            run, size = Run(text), len(text)
            far = [draw.randrange(FAR, 10 * FAR) for _ in range(2)]
            self.check_ends(text, run, far)
            for seat in draw.sample(range(size), 3):
                near = sorted(draw.sample(range(2 * size), 8))
                self.check_seat(text, seat, run, [0, 1, size // 2 + 1, size // 2 + 2] + near + far)

    def test_same_end(self):
        for size in range(1, 5):
            stands = plain_stands(WAVE, size)
            # Whether they are one and the same after many beats is told by such that are late enough.
            late = {text: Run(text).at(60) for text in stands}
            for one in stands:
                for other in stands:
                    self.assertIs(same_end(one, other), late[one] == late[other])
        for one in drawn(40):
            run, size = Run(one), len(one)
            for places in (-1, 0, 1, 2):
                other = plain_turn(one, places)
                told = run.at(1200) == Run(other).at(1200)
                self.assertIs(same_end(one, other), told)
                self.assertIs(same_end(other, one), told)
            self.assertIs(same_end(one, one + "0"), False)
            self.assertIs(same_end(one, one * 2), False)
            self.assertIs(same_end(one, plain_turn(run.at(1), 1 if run.number() > 0 else -1)),
                          run.at(1200) == plain_turn(run.at(1201), 1 if run.number() > 0 else -1))


if __name__ == "__main__":
    unittest.main()
