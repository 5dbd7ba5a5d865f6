"""[96] desk."""

import unittest

from standwaves.desk import Desk
from standwaves.errors import Full, Jump, NoCommand, NoDeed, Nothing, Refused, TooMany, Wrong
from standwaves.notation import show_calendar
from standwaves.rules import Rule
from standwaves.runs import fate_of, path_of, still_from
from standwaves.sizes import sizes_of
from standwaves.turning import turning_number
from tests.plain import strange_values

WAVE = Rule("0111")
ASKED = ["text", "rule", "log", "held", "beats", "fate", "still", "turning", "path"]


def seen(desk):
    """Returns all that a Desk answers of how it is now."""
    return [desk.execute(line) for line in ASKED]


def led(lines, text="1000", rule=WAVE):
    """Returns a Desk at which lines were executed."""
    desk = Desk(rule, text)
    for line in lines:
        desk.execute(line)
    return desk


class DeskTest(unittest.TestCase):

    def refuse(self, desk, line, error, *fields):
        """Checks that a line raises an error with these fields, and that nothing is changed."""
        before = seen(desk)
        with self.assertRaises(error) as caught:
            desk.execute(line)
        self.assertIs(type(caught.exception), error)
        self.assertEqual(list(vars(caught.exception).values()), list(fields))
        self.assertEqual(seen(desk), before)


class BeginTest(DeskTest):

    def test_wrong(self):
        for value in strange_values():
            if not isinstance(value, Rule):
                with self.assertRaises(Wrong) as caught:
                    Desk(value, value)
                self.assertEqual(caught.exception.place, 0)
            if not (isinstance(value, str) and value in ("0", "0111", "012")):
                with self.assertRaises(Wrong) as caught:
                    Desk(WAVE, value)
                self.assertEqual(caught.exception.place, 1)
        with self.assertRaises(Wrong):
            Desk(Rule("0111", 0), "2")

    def test_at_first(self):
        self.assertEqual(seen(Desk(WAVE, "100")), ["100", "0111 1", "none", "none", "0", "3 1", "3", "0", "100\n211\n022\n000"])
        self.assertEqual(seen(Desk(WAVE, "0")), ["0", "0111 1", "none", "none", "0", "0 1", "0", "0", "0"])


class DeedsTest(DeskTest):

    def test_deeds(self):
        desk = Desk(WAVE, "1000")
        for line, told in (("beats 1", "2101"), ("turn -1", "1012"), ("seat 1 2", "1212"), ("seat 1 0", "1012"), ("hold 1", "1012"),
                           ("beats 2", "0000"), ("free 1", "0000"), ("table 1000", "0000"), ("beats 50", "2222")):
            self.assertEqual(desk.execute(line), "ok")
            self.assertEqual(desk.execute("text"), told)
        self.assertEqual(desk.execute("log"), "beats 1\nturn -1\nseat 1 2\nseat 1 0\nhold 1\nbeats 2\nfree 1\ntable 1000\nbeats 50")
        self.assertEqual([desk.execute("rule"), desk.execute("beats"), desk.execute("held")], ["1000 1", "53", "none"])

    def test_undo_and_redo(self):
        desk = led(["turn -" + "9" * 40, "hold 3"], "1000")
        self.assertEqual([desk.execute(line) for line in ("undo", "undo", "redo", "redo")],
                         ["hold 3", "turn -" + "9" * 40, "turn -" + "9" * 40, "hold 3"])
        self.refuse(desk, "redo", Nothing)
        self.refuse(Desk(WAVE, "0"), "undo", Nothing)

    def test_held(self):
        desk = led(["hold 3", "hold 1"], "0000")
        self.assertEqual(desk.execute("held"), "1,3")
        self.assertEqual(led(["hold 2"], "0000").execute("held"), "2")

    def test_what_the_game_raises(self):
        desk = led(["hold 1"], "1000")
        self.refuse(desk, "hold 4", NoDeed, ("hold", 4))
        self.refuse(desk, "seat 0 3", NoDeed, ("seat", 0, "3"))
        self.refuse(desk, "free " + "9" * 40, NoDeed, ("free", int("9" * 40)))
        self.refuse(desk, "hold 1", Refused, ("hold", 1))
        self.refuse(desk, "seat 0 1", Refused, ("seat", 0, "1"))
        full = led(["turn 0"] * 200, "10")
        self.refuse(full, "turn 0", Full, 200)
        self.refuse(full, "free 1", Full, 200)
        self.refuse(full, "hold 2", NoDeed, ("hold", 2))
        self.refuse(full, "beats 51", NoCommand, "beats 51")

    def test_a_refused_deed_leaves_what_can_be_redone(self):
        desk = led(["turn 1", "undo"], "1000")
        self.refuse(desk, "free 0", Refused, ("free", 0))
        self.refuse(desk, "x", NoCommand, "x")
        self.assertEqual(desk.execute("redo"), "turn 1")


class AskedTest(DeskTest):

    def test_of_the_present_text_and_rule(self):
        for rule, text in ((WAVE, "012"), (WAVE, "1000"), (Rule("0010"), "01200"), (Rule("1001"), "0120"), (Rule("0111", 2), "0123")):
            desk = led(["turn 1", "beats 1"], text, rule)
            now = desk.execute("text")
            self.assertEqual(desk.execute("fate"), " ".join(map(str, fate_of(rule, now))))
            self.assertEqual(desk.execute("path"), "\n".join(path_of(rule, now)))
            still = still_from(rule, now)
            self.assertEqual(desk.execute("still"), "never" if still is None else str(still))
            self.assertEqual(desk.execute("turning"), str(turning_number(rule, now)))

    def test_by_the_present_rule(self):
        desk = led(["table 1000"], "000")
        self.assertEqual([desk.execute(line) for line in ("still", "fate", "path", "sizes 0 1", "rule")],
                         ["never", "0 3", "000\n111\n222", show_calendar(sizes_of(Rule("1000"), 0, 1)), "1000 1"])

    def test_as_if_no_seat_were_stubborn(self):
        desk = led(["hold 1"], "1000")
        self.assertEqual([desk.execute("still"), desk.execute("path").split("\n")[1], desk.execute("fate")], ["4", "2101", "4 1"])

    def test_turning(self):
        self.assertEqual([Desk(WAVE, text).execute("turning") for text in ("021", "000", "012012")], ["-1", "0", "2"])
        desk = Desk(Rule("0111", 2), "0022")
        with self.assertRaises(Jump) as caught:
            desk.execute("turning")
        self.assertEqual(caught.exception.seat, 1)
        self.assertEqual(desk.execute("text"), "0022")

    def test_sizes(self):
        desk = Desk(WAVE, "0")
        for p, q in ((1, 1), (-1, 1), (0, 1), (2, 2), (-1, 2)):
            sizes = sizes_of(WAVE, p, q)
            self.assertEqual(desk.execute(f"sizes {p} {q}"), show_calendar(sizes))
            for size in (1, 2, 3, 4, 5, 6, 10 ** 39):
                self.assertEqual(desk.execute(f"size {size} {p} {q}"), "yes" if size in sizes else "no")
                least = sizes.least_from(size)
                self.assertEqual(desk.execute(f"next {size} {p} {q}"), "never" if least is None else str(least))
        self.assertEqual([desk.execute(line) for line in ("sizes 1 1", "sizes 0 1", "size 2 1 1", "next 2 1 1", "next 1 0 1")],
                         ["3 none 1 0", "1 none 1 none", "no", "3", "never"])
        self.assertEqual(desk.execute("next " + "9" * 40 + " 1 1"), "9" * 40)

    def test_webs_that_are_too_great(self):
        for table, p in (("1011", 4), ("1111", 0)):
            desk = led(["table " + table], "0", Rule("0000", 0))
            for line in (f"sizes {p} 4", f"size 1 {p} 4", f"next 1 {p} 4"):
                with self.assertRaises(TooMany) as caught:
                    desk.execute(line)
                self.assertEqual(caught.exception.limit, 30)
        self.assertEqual(Desk(Rule("0011", 0), "0").execute("sizes -3 4"), "1 none 7 0")


class NoCommandTest(DeskTest):

    def test_no_lines(self):
        desk = led(["hold 1"], "1000")
        for line in ["", " ", "\n", "x", "none", "ok", "Text", "text ", " text", "text\n", "\ntext", "text 1", "text\ntext", "undo 1",
                     "undo ", "redo\n", "log ", "held 0", "beats ", "beats 0", "beats 51", "beats 01", "beats +1", "beats -0",
                     "beats 1 ", "beats 1\n", " beats 1", "beats  1", "beats 1\nbeats 1", "seat 0", "seat 0 4", "seat 0 01", "turn",
                     "turn +1", "turn -0", "turn 1" + "0" * 40, "turn " + "1" * 5000, "table 011", "table 0111 1", "hold", "hold -1",
                     "hold 00", "free", "fate 1", "still ", "turning 0", "path\n", "sizes", "sizes 1", "sizes 1 1 1", "sizes 1 0",
                     "sizes 1 -1", "sizes +1 1", "sizes -0 1", "sizes 01 1", "sizes 1  1", " sizes 1 1", "sizes 1 1 ", "sizes 1 1\n",
                     "sizes 1/1", "size", "size 7", "size 7 1", "size 0 1 1", "size -1 1 1", "size 07 1 1", "size 7 1 0", "size 7 1 1 1",
                     "size 1" + "0" * 40 + " 1 1", "size 7 1 x", "size x 1 1", "size 7 x 1", "next", "next 1 1", "next 0 1 1",
                     "next 1 1 0", "next 1 1 1\n", "next " + "9" * 41 + " 1 1", "next 1 1" + "0" * 40 + " 1", "nextt 1 1 1", "sized 1 1",
                     "next 1 -0 1", "size  1 1", "sizes 1 1 1 1", "show", "read 1", "copied", "past 1", "-1/2", "0111 1"]:
            before = seen(desk)
            with self.assertRaises(NoCommand, msg=line) as caught:
                desk.execute(line)
            self.assertIs(type(caught.exception), NoCommand)
            self.assertIs(caught.exception.line, line)
            self.assertEqual(seen(desk), before)

    def test_any_value(self):
        desk = led(["hold 1"], "1000")
        before = seen(desk)
        for value in strange_values() + [["text"], ("text",), ("beats", 1), b"text", {"text": 1}]:
            with self.assertRaises(NoCommand) as caught:
                desk.execute(value)
            self.assertIs(caught.exception.line, value)
        self.assertEqual(seen(desk), before)

    def test_ahead_of_all_else(self):
        # Neither what there is nothing of nor what is full is looked at first.
        full = led(["turn 0"] * 200, "10")
        for line in ("redo ", "beats 51", "hold -1", "turn", "seat 0 4"):
            self.refuse(full, line, NoCommand, line)


if __name__ == "__main__":
    unittest.main()
