"""[93] game."""

import unittest

from standwaves.errors import Full, NoDeed, NoEntry, Nothing, Refused, Wrong
from standwaves.game import Game
from standwaves.rules import Rule
from tests.plain import plain_beat, strange_values

WAVE = Rule("0111")
HOLDS = [("hold", seat) for seat in range(4)]


def seen(game):
    """Returns all that can be told of a Game without changing it."""
    return (game.text, game.rule.table, game.rule.rests, game.beats, game.held(), game.log(), len(game), list(game))


def redoable(game):
    """Returns the deeds that can be redone, the next one first."""
    other = game.copied()
    deeds = []
    while True:
        try:
            deeds.append(other.redo())
        except Nothing:
            return deeds


def played(deeds, text="0000", rule=WAVE):
    """Returns a Game in which deeds were done."""
    game = Game(rule, text)
    for deed in deeds:
        game.do(deed)
    return game


class GameTest(unittest.TestCase):

    def refuse(self, error, call, *fields):
        """Checks that a call raises an error, and that its fields are these very values."""
        with self.assertRaises(error) as caught:
            call()
        self.assertIs(type(caught.exception), error)
        told = list(vars(caught.exception).values())
        self.assertEqual(len(told), len(fields))
        for value, field in zip(told, fields):
            if isinstance(field, int):
                self.assertEqual(value, field)
            else:
                self.assertIs(value, field)


class BeginTest(GameTest):

    def test_at_first(self):
        game = Game(Rule("0010", 2), "0123")
        self.assertEqual(seen(game), ("0123", "0010", 2, 0, [], [], 0, []))
        self.assertEqual(game.rule, Rule("0010", 2))

    def test_wrong(self):
        for value in strange_values():
            if not isinstance(value, Rule):
                self.refuse(Wrong, lambda: Game(value, "000"), 0)
                self.refuse(Wrong, lambda: Game(value, None), 0)
            if not (isinstance(value, str) and value in ("0", "0111", "012")):
                self.refuse(Wrong, lambda: Game(WAVE, value), 1)
        for text in ("", "3", "0 ", "0\n", "00x", ["0"], b"0"):
            self.refuse(Wrong, lambda: Game(WAVE, text), 1)
        self.refuse(Wrong, lambda: Game(Rule("0111", 0), "2"), 1)
        self.assertEqual(Game(Rule("0111", 2), "3").text, "3")

    def test_read_only(self):
        game = Game(WAVE, "000")
        for name in ("text", "rule", "beats"):
            self.assertIsInstance(vars(Game)[name], property)
            with self.assertRaises(AttributeError):
                setattr(game, name, 1)


class DeedsTest(GameTest):

    def test_beats(self):
        game = played([("beats", 1)], "1000")
        self.assertEqual((game.text, game.beats), ("2101", 1))
        game.do(("beats", 50))
        self.assertEqual((game.text, game.beats), ("0000", 51))

    def test_beats_with_stubborn_seats(self):
        game = played([("hold", 1), ("beats", 1)], "1000")
        self.assertEqual(game.text, "2001")
        game.do(("beats", 2))
        self.assertEqual((game.text, game.held(), game.beats), ("0020", [1], 3))
        for many in range(1, 5):
            text = "1000"
            for _ in range(many):
                text = plain_beat("0111", 1, text)
                text = text[0] + "0" + text[2:]
            self.assertEqual(played([("hold", 1), ("beats", many)], "1000").text, text)

    def test_seat(self):
        game = played([("seat", 3, "1"), ("seat", 0, "2"), ("seat", 3, "0")])
        self.assertEqual((game.text, game.beats), ("2000", 0))

    def test_turn(self):
        self.assertEqual(played([("turn", 1)], "0012").text, "2001")
        self.assertEqual(played([("turn", -1)], "0012").text, "0120")
        self.assertEqual(played([("turn", 10 ** 999 + 1)], "0012").text, "2001")
        self.assertEqual(played([("turn", -4 * 10 ** 40)], "0012").text, "0012")

    def test_turn_takes_stubborn_seats_along(self):
        game = played([("hold", 0), ("hold", 3), ("turn", 1)], "0120")
        self.assertEqual((game.text, game.held()), ("0012", [0, 1]))
        game.do(("turn", -2 - 4 * 10 ** 30))
        self.assertEqual((game.text, game.held()), ("1200", [2, 3]))
        self.refuse(Refused, lambda: game.do(HOLDS[3]), HOLDS[3])

    def test_table(self):
        game = played([("table", "0010"), ("beats", 1)], "0100")
        self.assertEqual((game.rule, game.text), (Rule("0010"), "0210"))
        self.assertEqual(played([("table", "1000")], "3", Rule("0111", 2)).rule, Rule("1000", 2))

    def test_hold_and_free(self):
        game = played([("hold", 2), ("hold", 0)])
        self.assertEqual(game.held(), [0, 2])
        game.do(("free", 2))
        self.assertEqual(game.held(), [0])
        game.do(("free", 0))
        self.assertEqual(game.held(), [])
        game.do(("seat", 0, "1"))
        self.assertEqual(game.text, "1000")

    def test_deeds_that_change_nothing(self):
        game = played([("turn", 0), ("table", "0111"), ("turn", 4), ("beats", 1)], "0000")
        self.assertEqual(seen(game), ("0000", "0111", 1, 1, [], game.log(), 4, game.log()))
        self.assertEqual(game.log(), [("turn", 0), ("table", "0111"), ("turn", 4), ("beats", 1)])

    def test_nothing_is_told_by_do(self):
        self.assertIsNone(Game(WAVE, "0").do(("beats", 1)))


class NoDeedTest(GameTest):

    def check(self, value, text="0120", rule=WAVE):
        game = played([("turn", 0), ("beats", 1)], text, rule)
        game.undo()
        before = seen(game), redoable(game)
        self.refuse(NoDeed, lambda: game.do(value), value)
        self.assertEqual((seen(game), redoable(game)), before)

    def test_any_value(self):
        for value in strange_values():
            self.check(value)
            self.check((value,))
            for word in ("beats", "seat", "turn", "table", "hold", "free"):
                self.check((word, value, value, value))
                self.check((word, []) + (value,))
                self.check([word, value])
            if not isinstance(value, str) or value != "turn":
                self.check((value, 1))
            if value != "0" or not isinstance(value, str):
                self.check(("seat", 0, value))
            if not isinstance(value, int) or isinstance(value, bool):
                self.check(("seat", value, "1"))
                for word in ("beats", "turn", "hold", "free"):
                    self.check((word, value))
            if value != "0111" or not isinstance(value, str):
                self.check(("table", value))

    def test_beats(self):
        for many in (0, -1, 51, 10 ** 999, -10 ** 40, True, False, "1", None, (1,), [1]):
            self.check(("beats", many))

    def test_seats(self):
        for seat in (-1, 4, 5, 10 ** 40, -10 ** 40, True, False, "0", None, [0], (0,)):
            self.check(("seat", seat, "1"))
            self.check(("hold", seat))
            self.check(("free", seat))

    def test_signs(self):
        for sign in ("3", "", "01", "12", "012", "x", " 1", "1\n", 1, True, None, ["1"], b"1", ("1",)):
            self.check(("seat", 0, sign))
        self.check(("seat", 0, "2"), "0110", Rule("0111", 0))
        self.assertEqual(played([("seat", 0, "3")], "0", Rule("0111", 2)).text, "3")

    def test_turns_and_tables(self):
        for places in (True, False, None, "1", [1], (1,)):
            self.check(("turn", places))
        for table in ("011", "01110", "0121", "", "0111 ", 111, ["0", "1", "1", "1"], b"0111", None):
            self.check(("table", table))

    def test_lengths_and_words(self):
        for value in ((), ("beats",), ("beats", 1, 1), ("seat", 0), ("seat", 0, "1", "1"), ("seat",), ("turn",),
                      ("turn", 1, 2), ("table",), ("table", "0111", 1), ("hold",), ("hold", 0, 0), ("free", 0, 0),
                      ("Beats", 1), ("beat", 1), (" beats", 1), ("", 1), ("undo",), ("undo", 1), (("beats", 1),),
                      (None, 1), (1, "beats"), "beats 1", "beats"):
            self.check(value)

    def test_lists_are_no_tuples(self):
        for deed in (["beats", 1], ["seat", 0, "1"], ["turn", 0], ["table", "0111"], ["hold", 0], ["free", 0],
                     {"beats": 1}, [("beats", 1)]):
            self.check(deed)

    def test_a_table_that_is_there_does_not_let_other_signs(self):
        game = played([("table", "1000")], "0", Rule("0111", 0))
        deed = ("seat", 0, "2")
        self.refuse(NoDeed, lambda: game.do(deed), deed)


class RefusedTest(GameTest):

    def check(self, game, deed):
        before = seen(game), redoable(game)
        self.refuse(Refused, lambda: game.do(deed), deed)
        self.assertEqual((seen(game), redoable(game)), before)

    def test_refused(self):
        game = played([("hold", 0)], "0120")
        for deed in (("seat", 0, "1"), ("seat", 0, "0"), ("seat", 1, "1"), ("seat", 3, "0"), ("hold", 0), ("hold", 1),
                     ("hold", 2), ("free", 1), ("free", 3)):
            self.check(game, deed)
        for deed in (("seat", 1, "0"), ("hold", 3), ("free", 0)):
            game.do(deed)

    def test_behind_an_undo(self):
        game = played([("hold", 0), ("beats", 2), ("turn", 1)], "0120")
        game.undo()
        game.undo()
        self.check(game, ("free", 1))
        self.check(game, ("hold", 0))
        self.assertEqual(redoable(game), [("beats", 2), ("turn", 1)])
        self.assertEqual([game.redo(), game.redo()], [("beats", 2), ("turn", 1)])

    def test_by_what_is_there_now(self):
        game = played([("hold", 0)], "0000")
        game.undo()
        self.check(game, ("free", 0))
        game.redo()
        game.do(("free", 0))
        game.do(("seat", 0, "1"))
        self.check(game, ("hold", 0))


class FullTest(GameTest):

    def full(self):
        return played([("hold", 0)] + [("turn", number) for number in range(199)], "0120")

    def test_two_hundred(self):
        game = self.full()
        self.assertEqual(len(game), 200)
        self.assertEqual(game.log()[-1], ("turn", 198))
        before = seen(game)
        held = game.held()[0]
        for deed in (("beats", 1), ("turn", 0), ("free", held), ("hold", held), ("free", (held + 1) % 4)):
            self.refuse(Full, lambda: game.do(deed), 200)
            self.assertEqual(seen(game), before)
        for deed in (("beats", 0), ("hold", 4), ["turn", 0], None):
            self.refuse(NoDeed, lambda: game.do(deed), deed)

    def test_undone_makes_room(self):
        game = self.full()
        self.assertEqual(game.undo(), ("turn", 198))
        self.refuse(Refused, lambda: game.do(HOLDS[game.held()[0]]), HOLDS[game.held()[0]])
        self.assertEqual(redoable(game), [("turn", 198)])
        self.assertEqual(game.redo(), ("turn", 198))
        self.refuse(Full, lambda: game.do(("turn", 0)), 200)
        game.undo()
        game.do(("beats", 1))
        self.refuse(Full, lambda: game.do(("turn", 0)), 200)
        self.assertEqual(len(game.past(200)), 200)
        self.refuse(Full, lambda: game.copied().do(("turn", 0)), 200)


class UndoTest(GameTest):

    DEEDS = [("seat", 1, "1"), ("beats", 2), ("hold", 1), ("table", "0010"), ("turn", -7), ("beats", 50), ("free", 4),
             ("turn", 0), ("seat", 4, "2"), ("beats", 1)]

    def test_each_one(self):
        game = Game(WAVE, "00000")
        told = [seen(game)]
        for deed in self.DEEDS:
            game.do(deed)
            told.append(seen(game))
        deeds = game.log()
        for number in range(len(deeds) - 1, -1, -1):
            self.assertEqual(game.undo(), deeds[number])
            self.assertEqual(seen(game), told[number])
            self.assertEqual(redoable(game), deeds[number:])
        self.refuse(Nothing, game.undo)
        for number in range(len(deeds)):
            self.assertEqual(game.redo(), deeds[number])
            self.assertEqual(seen(game), told[number + 1])
        self.refuse(Nothing, game.redo)
        self.assertEqual(seen(game), told[-1])

    def test_nothing(self):
        game = Game(WAVE, "000")
        self.refuse(Nothing, game.undo)
        self.refuse(Nothing, game.redo)
        game.do(("beats", 1))
        self.refuse(Nothing, game.redo)
        self.assertEqual(len(game), 1)

    def test_a_deed_takes_away_what_can_be_redone(self):
        game = played([("turn", 1), ("turn", 2), ("turn", 3)])
        game.undo()
        game.undo()
        game.redo()
        game.do(("turn", 4))
        self.refuse(Nothing, game.redo)
        self.assertEqual(game.log(), [("turn", 1), ("turn", 2), ("turn", 4)])

    def test_beats_that_were_undone_do_not_count(self):
        game = played([("beats", 3), ("beats", 4)])
        self.assertEqual(game.beats, 7)
        game.undo()
        self.assertEqual(game.beats, 3)
        game.redo()
        self.assertEqual(game.beats, 7)


class LogTest(GameTest):

    def test_new_lists(self):
        game = played([("hold", 0), ("beats", 1)])
        game.log().append("x")
        game.held().append(7)
        self.assertEqual((game.log(), game.held(), len(game)), ([("hold", 0), ("beats", 1)], [0], 2))

    def test_iterated_over_as_the_log(self):
        game = played([("hold", 0), ("beats", 1), ("turn", 2)])
        self.assertEqual([list(game), [deed for deed in game], tuple(game)], [game.log(), game.log(), tuple(game.log())])
        self.assertIs(("beats", 1) in game, True)
        self.assertEqual(list(Game(WAVE, "0")), [])
        # Who undoes on the way still comes to each deed.
        told = []
        for deed in game:
            told.append(deed)
            game.undo()
        self.assertEqual(told, [("hold", 0), ("beats", 1), ("turn", 2)])

    def test_past(self):
        deeds = [("hold", 0), ("beats", 1), ("turn", 2)]
        game = played(deeds, "0100")
        game.undo()
        for many in (0, 1, 2):
            past = game.past(many)
            self.assertEqual(past, played(deeds[:many], "0100"))
            self.assertEqual(seen(past), seen(played(deeds[:many], "0100")))
            self.refuse(Nothing, past.redo)
        for many in (3, -1, 10 ** 40, -10 ** 40, 200):
            self.refuse(NoEntry, lambda: game.past(many), many)
        value = 10 ** 50
        self.refuse(NoEntry, lambda: game.past(value), value)
        self.assertEqual(redoable(game), [("turn", 2)])

    def test_past_and_copies_go_their_own_way(self):
        game = played([("hold", 0), ("beats", 1)])
        past, copy = game.past(2), game.copied()
        past.do(("turn", 1))
        copy.undo()
        self.assertEqual([len(game), len(past), len(copy)], [2, 3, 1])
        game.undo()
        game.undo()
        self.assertEqual([past.log(), copy.log(), past.held()],
                         [[("hold", 0), ("beats", 1), ("turn", 1)], [("hold", 0)], [1]])
        self.assertEqual(past.past(0), Game(WAVE, "0000"))

    def test_copied(self):
        game = played([("hold", 0), ("beats", 1), ("turn", 1)])
        game.undo()
        copy = game.copied()
        self.assertEqual(seen(copy), seen(game))
        self.assertEqual(copy.redo(), ("turn", 1))
        self.assertEqual(len(game), 2)
        self.assertEqual(game.redo(), ("turn", 1))


class TrialTest(GameTest):

    def test_all_is_as_it_was(self):
        game = played([("hold", 0), ("beats", 1), ("turn", 1)])
        game.undo()
        before = seen(game), redoable(game)

        def act(other):
            self.assertIs(other, game)
            other.do(("turn", 5))
            other.do(("table", "1111"))
            self.assertEqual(game.rule, Rule("1111"))
            return (other.text, len(other))

        self.assertEqual(game.trial(act), ("0000", 4))
        self.assertEqual((seen(game), redoable(game)), before)

    def test_undo_and_redo_within(self):
        game = played([("hold", 0), ("beats", 1), ("turn", 1)])
        game.undo()
        before = seen(game), redoable(game)
        self.assertEqual(game.trial(lambda other: [other.undo(), other.undo(), other.redo(), other.log()]),
                         [("beats", 1), ("hold", 0), ("hold", 0), [("hold", 0)]])
        self.assertEqual((seen(game), redoable(game)), before)
        self.assertEqual(game.trial(lambda other: [other.redo(), len(other)]), [("turn", 1), 3])
        self.assertEqual((seen(game), redoable(game)), before)

    def test_a_trial_within_a_trial(self):
        game = played([("beats", 1)], "1000")

        def outer(other):
            other.do(("turn", 1))
            held = seen(other)
            self.assertEqual(other.trial(lambda inner: [inner.undo(), inner.undo(), len(inner)]),
                             [("turn", 1), ("beats", 1), 0])
            self.assertEqual(seen(other), held)
            return other.text

        self.assertEqual(game.trial(outer), "1210")
        self.assertEqual((game.text, len(game)), ("2101", 1))

    def test_errors_go_on(self):
        game = played([("beats", 1)])
        before = seen(game)
        deed = ("free", 2)

        def act(other):
            other.do(("turn", 1))
            other.do(deed)

        self.refuse(Refused, lambda: game.trial(act), deed)
        self.assertEqual(seen(game), before)
        problem = KeyError("own")

        def fail(other):
            other.undo()
            raise problem

        with self.assertRaises(KeyError) as caught:
            game.trial(fail)
        self.assertIs(caught.exception, problem)
        self.assertEqual((seen(game), redoable(game)), (before, []))

    def test_answers(self):
        game = Game(WAVE, "0")
        answer = []
        self.assertIs(game.trial(lambda other: answer), answer)
        self.assertIsNone(game.trial(lambda other: None))
        self.assertIs(game.trial(lambda other: other), game)


class EqualTest(GameTest):

    def test_equal(self):
        deeds = [("hold", 0), ("beats", 1)]
        self.assertIs(played(deeds) == played(deeds), True)
        self.assertIs(played(deeds) != played(deeds), False)
        one = played(deeds + [("turn", 1)])
        one.undo()
        self.assertIs(one == played(deeds), True)
        self.assertIs(Game(WAVE, "00") == Game(Rule("0111"), "00"), True)

    def test_unequal(self):
        deeds = [("hold", 0), ("beats", 1)]
        self.assertIs(played(deeds) == played(deeds[:1]), False)
        self.assertIs(played(deeds) == played(deeds, "00000"), False)
        self.assertIs(played(deeds) == played(deeds, "0000", Rule("0110")), False)
        self.assertIs(played(deeds) == played(deeds, "0000", Rule("0111", 2)), False)
        # One text and one rule now, but not at first, or not by the same deeds.
        self.assertIs(played([("turn", 1)], "0000") == played([("turn", 2)], "0000"), False)
        self.assertIs(played([("turn", 0)], "0000") == Game(WAVE, "0000"), False)
        self.assertIs(played([("table", "0111")], "0", Rule("0000")) == played([("table", "0111")], "0"), False)
        self.assertIs(played([("beats", 9)], "1000") == played([("beats", 9)], "0000"), False)

    def test_other_kinds(self):
        game = Game(WAVE, "0")
        for value in strange_values() + [game.log(), WAVE, "0"]:
            self.assertIs(game == value, False)
            self.assertIs(game != value, True)


if __name__ == "__main__":
    unittest.main()
