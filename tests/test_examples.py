"""The examples of the document, as it shows them."""

import doctest
import unittest

STAGE_1 = '''
>>> from standwaves.rules import Rule
>>> rule = Rule("0111")
>>> [rule.signs, rule("1", "0", "0"), rule("0", "2", "1"), rule.ring_after("1000"), rule.inner_after("20100")]
['012', '1', '0', '2101', '121']
>>> [rule.mirrored() == rule, rule.with_bit(1).table, rule.stirs("00"), rule.is_still("000"), len(Rule.all_of(0))]
[True, '0011', False, True, 16]
'''

STANDS = '''
>>> from standwaves.stands import all_turns, from_windows, least_part, turned_by, turns_between, window_at
>>> [turned_by("0012", 1), turned_by("0012", -1), least_part("2121"), all_turns("0101"), turns_between("0101", "1010")]
['2001', '0120', '21', ['0101', '1010'], [1, 3]]
>>> [window_at("012", 0, 2), from_windows(["201", "012", "120"])]
['12012', '012']
'''

RUNS = '''
>>> from standwaves.runs import after, fate_of, path_of, row_after, standers, still_from, turning_fate
>>> [path_of(rule, "100"), fate_of(rule, "100"), still_from(rule, "100"), fate_of(rule, "012"), turning_fate(rule, "012")]
[['100', '211', '022', '000'], (3, 1), 3, (0, 3), (0, 1, 2)]
>>> [after(rule, "10000", 2), row_after(rule, "0010000", 2), standers(rule, "100", 3)]
['02112', '021', [1, 2, 0, 0]]
'''

SPREAD = '''
>>> from standwaves.spread import all_heal, apart_pair, healed_after, matters_after, scar_of, spread_of, unlike_seats
>>> [matters_after(rule, 1), apart_pair(rule, 1, 0), unlike_seats(rule, "0000", "0100", 1), spread_of(rule, "00000", 2, "1", 3)]
[[-1, 0, 1], ('000', '010'), [0, 1, 2], [1, 3, 4, 2]]
>>> [healed_after(rule, "0000", 0, "1"), all_heal(rule, 2), scar_of(rule, 3), matters_after(Rule("0000"), 2)]
[4, True, ('001', 0, '2'), []]
'''

WEBS = '''
>>> from standwaves.webs import Web
>>> web = Web(rule, 1, 1)
>>> [web.nodes(), web.steps()["10"], len(web.windows()), web.parts() == [web.nodes()], web.periods()]
[['00', '02', '10', '21'], ['00', '02'], 11, True, [1]]
>>> [web.walk_of("021"), web.stand_of(["10", "02", "21"]), web.walk_of("012"), web.is_closed(["00"])]
[['10', '02', '21'], '021', None, True]
'''

SHAPES = '''
>>> from standwaves.shapes import is_basic, is_shape, least_shape, paces, shapes_of
>>> [is_shape(rule, "021", 1, 1), is_shape(rule, "021", -2, 1), paces(rule, "021", 3), is_basic(rule, "021", 2, 2)]
[True, True, [(1, 1), (2, 2), (3, 0)], False]
>>> [shapes_of(rule, 1, 1, 4), least_shape(rule, 1, 1, 5), least_shape(rule, 0, 1, 5)]
[['0000', '0021', '0210', '1002', '2100'], '00021', None]
'''

CALENDARS = '''
>>> from standwaves.calendars import Calendar
>>> odd = Calendar(5, [1, 2], 4, [1, 3])
>>> [3 in odd, 7 in odd, odd.early, odd.start, odd.period, odd.rests]
[False, True, [1, 2], 4, 2, [1]]
>>> [(~odd).least_from(1), odd.least_from(10 ** 30), odd.gap_from(1), odd.many_below(10), odd.nth(10 ** 30)]
[3, 1000000000000000000000000000001, 3, 5, 2000000000000000000000000000001]
>>> steps = Calendar.of_steps([3, 5])
>>> [steps.early, steps.start, steps.period, steps.within(~Calendar(8, [1, 2, 4, 7], 1, [])), (steps & odd).early]
[[3, 5, 6], 8, 1, True, [5]]
'''

SIZES = '''
>>> from standwaves.sizes import first_shape, gaps_of, sizes_of, sizes_within
>>> [sizes_of(rule, 1, 1).start, sizes_of(rule, 1, 1).early, first_shape(rule, 3, 1), sizes_of(rule, 0, 1) == ~Calendar(1, [], 1, [0])]
[3, [], (1, 1, '021'), True]
'''

COUNTS = '''
>>> from standwaves.counts import counts_to, many_alive, many_shapes, many_turns, nth_shape, shape_number
>>> [many_shapes(rule, 1, 1, 4), many_alive(rule, 1, 1, 4), many_turns(rule, 1, 1, 4), counts_to(rule, 1, 1, 4)]
[5, 4, 2, [1, 1, 4, 5]]
>>> [nth_shape(rule, 1, 1, 3, 1), shape_number(rule, 1, 1, "210"), shape_number(rule, 1, 1, "012")]
['021', 3, None]
'''

ELDERS = '''
>>> from standwaves.elders import elders_of, least_elder, many_elders, orphan_row, orphans_of
>>> [elders_of(rule, "20"), many_elders(rule, "000"), least_elder(rule, "111"), orphans_of(rule, 1), orphan_row(rule)]
[['12'], 8, None, ['1'], '010']
'''

CIRCLES = '''
>>> from standwaves.circles import circle_of, circles_apart, circles_of, longest_way, many_that_come, periods_of, way_in
>>> [circles_of(rule, 3), periods_of(rule, 3), many_that_come(rule, 3)]
[[['000'], ['012', '120', '201'], ['021', '102', '210']], {1: 1, 3: 2}, {'000': 21, '012': 3, '021': 3}]
>>> [longest_way(rule, 3), way_in(rule, "100"), circle_of(rule, "100"), len(circles_apart(rule, 3)), periods_of(rule, 4)]
[(3, '001'), ['100', '211', '022'], ['000'], 3, {1: 1, 4: 2}]
'''

TURNING = '''
>>> from standwaves.turning import changing_stand, heights_of, many_with, nth_with, place_with, steps_of, turning_number
>>> [steps_of(rule, "0012"), turning_number(rule, "0012"), turning_number(rule, "021"), steps_of(Rule("0111", rests=2), "013")]
[[0, 1, 1, 1], 1, -1, [1, 2, 1]]
>>> [heights_of(rule, "0110"), heights_of(rule, "012"), changing_stand(rule), changing_stand(Rule("0011"))]
[[0, 1, 1, 0], None, None, '001']
>>> [[many_with(rule, 3, number) for number in (-1, 0, 1, 2)], nth_with(rule, 3, 1, 2), place_with(rule, "120")]
[[3, 21, 3, 0], '201', 1]
'''

ENDS = '''
>>> from standwaves.ends import end_of, late_stand, moving_from, quiet_after, same_end
>>> [quiet_after("100"), quiet_after("012"), moving_from("01201"), end_of("021"), late_stand("01201", 10 ** 30 + 3)]
[3, None, 3, (-1, 0), '01200']
>>> [same_end("100", "000"), same_end("01201", "01200"), same_end("012", "120")]
[True, False, False]
'''

WAVES = '''
>>> from standwaves.waves import all_standing, beats_of, comes_from, how_often, last_beat, next_standing, standing_calendar
>>> [beats_of("100", 1, 9), next_standing("100", 1, 2), last_beat("100", 0), comes_from("012", 0, 1), beats_of("012", 0, 4)]
[[1], None, 0, ['right'], [1, 4, 7, 10]]
>>> [how_often("012", 0, 10 ** 30), all_standing("012", 10 ** 30), standing_calendar("012", 0).rests]
[333333333333333333333333333333, [0], [1]]
'''

RULESETS = '''
>>> from standwaves.rulesets import alike_after, alike_groups, parted_after, quiet_tables
>>> [parted_after(rule, Rule("0110"), 1), parted_after(Rule("0111", 0), rule, 1), alike_after(rule, Rule("0111"), 2)]
['01', '1', True]
>>> [len(alike_groups(1, 1, 1)), quiet_tables(1, 1)]
[2, ['0000', '0001', '0010', '0011', '0100', '0101', '0110', '0111']]
'''

CHANGES = '''
>>> from standwaves.changes import fewest_bits, harm_of, tables_of, tables_with_shape
>>> [len(tables_of("012", "120", 1, 1)), tables_of("01", "01", 1, 1), len(tables_with_shape("012", -1, 1, 1))]
[8, [], 8]
>>> [fewest_bits(rule, "012", True), fewest_bits(rule, "000", False), harm_of(rule, "012")]
[[1], [0], {0: None, 1: 1, 2: None, 3: None}]
'''

STUBBORN = '''
>>> from standwaves.stubborn import cut_rows, held_after, held_quiet
>>> from standwaves.ends_of_rows import row_beats, row_quiet
>>> [held_after(rule, "0100", [0], 2), row_beats(rule, "100", 2), row_quiet(rule, "100"), held_quiet(rule, "0100", [0])]
['0021', '021', 4, 4]
>>> [cut_rows("01020", [2]), cut_rows("01020", [0, 4]), cut_rows("0", [0]), held_quiet(Rule("0111", rests=0), "010", [0])]
[[(3, '2001')], [(1, '102')], [], None]
'''

MIXES = '''
>>> from standwaves.mixes import mixed_after, mixed_fate, mixed_quiet, parting_stand, short_mix
>>> mix = [rule, Rule("0000")]
>>> [mixed_after(mix, "1000", 2), mixed_fate(mix, "1000"), mixed_quiet(mix, "1000"), parting_stand(mix, [rule], 2), len(short_mix(mix + mix))]
['0202', (3, 1), 3, '012', 2]
'''

GAME = '''
>>> from standwaves.game import Game
>>> game = Game(rule, "0000")
>>> game.do(("seat", 1, "1"))
>>> game.do(("beats", 2))
>>> [game.text, game.beats, game.undo(), game.text, game.redo(), len(game), list(game.past(1))]
['2021', 2, ('beats', 2), '0100', ('beats', 2), 2, [('seat', 1, '1')]]
>>> game.do(("seat", 0, "0"))
>>> game.do(("hold", 0))
>>> [game.held(), game.trial(lambda other: other.undo()), game.held()]
[[0], ('hold', 0), [0]]
'''

STAGE_9 = r'''
>>> from standwaves.notation import show_calendar, show_deed, show_path, show_rule
>>> [show_rule(rule), show_calendar(odd), show_calendar(Calendar(1, [], 1, [])), show_deed(("turn", -3)), show_path(["10", "21"])]
['0111 1', '4 1,2 2 1', '1 none 1 none', 'turn -3', '10\n21']
>>> from standwaves.readers import read_calendar, read_deed, read_rule, read_shape
>>> [read_rule("0111 1") == rule, read_calendar("4 1,2 2 1") == odd, read_shape("-1/2"), read_deed("seat 0 1")]
[True, True, (-1, 2), ('seat', 0, '1')]
>>> from standwaves.desk import Desk
>>> desk = Desk(rule, "1000")
>>> [desk.execute(line) for line in ["beats 1", "text", "hold 2", "held", "still", "turning", "undo", "size 7 1 1", "sizes 1 1"]]
['ok', '2101', 'ok', '2', '3', '0', 'hold 2', 'yes', '3 none 1 0']
'''

EXAMPLES = [STAGE_1, STANDS, RUNS, SPREAD, WEBS, SHAPES, CALENDARS, SIZES, COUNTS, ELDERS, CIRCLES, TURNING,
            ENDS, WAVES, RULESETS, CHANGES, STUBBORN, MIXES, GAME, STAGE_9]


class ExamplesTest(unittest.TestCase):

    def test_examples(self):
        told = doctest.DocTestParser().get_doctest("\n".join(EXAMPLES), {}, "examples", None, 0)
        lines = []
        result = doctest.DocTestRunner(verbose=False).run(told, out=lines.append)
        self.assertEqual(result.failed, 0, "".join(lines))
        self.assertEqual(result.attempted, "".join(EXAMPLES).count(">>>"))


if __name__ == "__main__":
    unittest.main()
