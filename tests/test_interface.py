"""The interface: names, arguments, and the file in which each is defined."""

import importlib
import inspect
import unittest

FUNCTIONS = {
    "kinds": ["is_integer(thing)", "is_count(thing)", "is_number(thing)", "is_row(thing, signs)",
              "is_stand(thing, signs)", "is_table(thing)"],
    "stands": ["turned_by(text, places)", "mirror_of(text)", "least_turn(text)", "least_part(text)",
               "window_at(text, seat, reach)", "all_turns(text)", "turns_between(text, other)",
               "all_stands(signs, size)", "from_windows(rows)"],
    "runs": ["after(rule, text, many)", "row_after(rule, row, many)", "late_after(rule, text, many)",
             "path_of(rule, text)", "standers(rule, text, many)", "fate_of(rule, text)",
             "turning_fate(rule, text)", "still_from(rule, text)"],
    "spread": ["matters_after(rule, many)", "unlike_seats(rule, one, other, many)",
               "spread_of(rule, text, seat, sign, many)", "apart_pair(rule, many, d)",
               "scar_of(rule, size)", "changed_seat(text, seat, sign)",
               "healed_after(rule, text, seat, sign)", "all_heal(rule, size)"],
    "shapes": ["is_shape(rule, text, p, q)", "is_basic(rule, text, p, q)", "paces(rule, text, most)",
               "shapes_of(rule, p, q, size)", "least_shape(rule, p, q, size)"],
    "sizes": ["sizes_of(rule, p, q)", "sizes_within(rule, q)", "gaps_of(rule, p, q)",
              "sizes_alike(one, other, q)", "first_shape(rule, size, q)"],
    "counts": ["many_shapes(rule, p, q, size)", "many_alive(rule, p, q, size)",
               "many_turns(rule, p, q, size)", "nth_shape(rule, p, q, size, number)",
               "shape_number(rule, p, q, text)", "counts_to(rule, p, q, size)"],
    "elders": ["many_elders(rule, text)", "elders_before(rule, text, many)", "least_elder(rule, text)",
               "orphan_row(rule)", "elders_of(rule, text)", "orphans_of(rule, size)",
               "is_orphan_row(rule, row)"],
    "circles": ["circle_of(rule, text)", "way_in(rule, text)", "circles_of(rule, size)",
                "circles_apart(rule, size)", "stands_with_fate(rule, size, early, period)",
                "periods_of(rule, size)", "many_that_come(rule, size)", "longest_way(rule, size)",
                "is_circle(rule, thing)"],
    "turning": ["steps_of(rule, text)", "is_even(rule, text)", "keeps_turning(rule)",
                "are_heights(rule, text, thing)", "turning_number(rule, text)", "most_turning(rule, size)",
                "many_with(rule, size, number)", "place_with(rule, text)", "changing_stand(rule)",
                "heights_of(rule, text)", "nth_with(rule, size, number, place)"],
    "ends": ["quiet_after(text)", "moving_from(text)", "late_stand(text, many)", "end_of(text)",
             "same_end(one, other)", "last_standing(text)"],
    "waves": ["stands_at(text, seat, beat)", "all_standing(text, beat)", "comes_from(text, seat, beat)",
              "beats_of(text, seat, many)", "next_standing(text, seat, beat)",
              "how_often(text, seat, beat)", "standing_calendar(text, seat)", "last_beat(text, seat)"],
    "rulesets": ["parted_after(one, other, many)", "alike_after(one, other, many)",
                 "alike_groups(rests, many, size)", "quiet_tables(rests, size)"],
    "changes": ["tables_of(text, later, rests, many)", "tables_with_shape(text, p, q, rests)",
                "fewest_bits(rule, text, wish)", "harm_of(rule, text)"],
    "stubborn": ["are_stubborn(text, thing)", "held_after(rule, text, seats, many)",
                 "held_fate(rule, text, seats)", "held_quiet(rule, text, seats)", "cut_rows(text, seats)"],
    "ends_of_rows": ["row_beats(rule, row, many)", "row_quiet(rule, row)", "row_fate(rule, row)",
                     "joined_rows(rule, one, other)"],
    "mixes": ["are_mixed(thing)", "is_mixed_shape(rules, text, p, rounds)", "mixed_after(rules, text, many)",
              "mixed_fate(rules, text)", "mixed_quiet(rules, text)", "short_mix(rules)", "shifted_mix(rules, many)",
              "mirrored_mix(rules)", "parting_stand(one, other, many)"],
    "notation": ["show_rule(rule)", "show_calendar(calendar)", "show_shape(shape)", "show_deed(deed)",
                 "show_log(game)", "show_path(stands)"],
    "readers": ["read_rule(text)", "read_calendar(text)", "read_shape(text)", "read_deed(text)", "read_path(text)",
                "read_log(rule, text, lines)"],
}
CLASSES = {
    "rules": {"Rule": ["__init__(self, table, rests=1)", "__call__(self, left, seat, right)",
                       "ring_after(self, text)", "inner_after(self, row)", "mirrored(self)",
                       "with_bit(self, place)", "all_of(rests)", "stirs(self, text)",
                       "is_still(self, text)"]},
    "webs": {"Web": ["__init__(self, rule, p, q)", "windows(self)", "nodes(self)", "parts(self)",
                     "periods(self)", "steps(self)", "is_closed(self, thing)", "stand_of(self, thing)",
                     "walk_of(self, text)"]},
    "calendars": {"Calendar": ["__init__(self, start, early, period, rests)", "within(self, other)",
                               "least_from(self, number)", "gap_from(self, number)", "nth(self, place)",
                               "many_below(self, number)", "of_steps(steps)"]},
    "game": {"Game": ["__init__(self, rule, text)", "held(self)", "log(self)", "do(self, deed)", "undo(self)",
                      "redo(self)", "past(self, many)", "copied(self)", "trial(self, act)"]},
    "desk": {"Desk": ["__init__(self, rule, text)", "execute(self, line)"]},
}
PROPERTIES = {"Rule": ["table", "rests", "signs"], "Web": ["rule", "p", "q"],
              "Calendar": ["start", "early", "period", "rests"], "Game": ["text", "rule", "beats"], "Desk": []}
OPERATORS = {"Rule": ["__eq__"], "Web": ["__eq__", "__len__"], "Game": ["__eq__", "__len__", "__iter__"], "Desk": [],
             "Calendar": ["__contains__", "__invert__", "__or__", "__and__", "__xor__", "__eq__"]}
STATIC = {"rules": ("Rule", "all_of"), "calendars": ("Calendar", "of_steps")}


def shown(name, function):
    """Returns a function's name with its arguments."""
    return name + str(inspect.signature(function))


class InterfaceTest(unittest.TestCase):

    def test_functions(self):
        for file, wanted in FUNCTIONS.items():
            module = importlib.import_module(f"standwaves.{file}")
            for line in wanted:
                name = line.split("(")[0]
                function = getattr(module, name)
                self.assertTrue(inspect.isfunction(function), name)
                self.assertEqual(function.__module__, module.__name__)
                self.assertEqual(shown(name, function), line)

    def test_methods_stand_in_the_class_itself(self):
        for file, classes in CLASSES.items():
            module = importlib.import_module(f"standwaves.{file}")
            for class_name, wanted in classes.items():
                own = getattr(module, class_name)
                self.assertEqual(own.__module__, module.__name__)
                for line in wanted:
                    name = line.split("(")[0]
                    self.assertIn(name, vars(own))
                    self.assertEqual(shown(name, inspect.unwrap(getattr(own, name))), line)
                for name in OPERATORS[class_name]:
                    self.assertIn(name, vars(own))
                for name in PROPERTIES[class_name]:
                    self.assertIsInstance(vars(own)[name], property)

    def test_static_methods(self):
        for file, (class_name, name) in STATIC.items():
            own = getattr(importlib.import_module(f"standwaves.{file}"), class_name)
            self.assertIsInstance(vars(own)[name], staticmethod)


if __name__ == "__main__":
    unittest.main()
