"""[94] notation and [95] readers."""

import unittest

from standwaves.calendars import Calendar
from standwaves.errors import Broken, NoText
from standwaves.game import Game
from standwaves.notation import show_calendar, show_deed, show_log, show_path, show_rule, show_shape
from standwaves.readers import read_calendar, read_deed, read_log, read_path, read_rule, read_shape
from standwaves.rules import Rule
from tests.plain import strange_values

WAVE = Rule("0111")
FORTY = "9" * 40
# Words that are no integers as they are written.
NO_INTEGERS = ["", "-", "+", "+1", "-0", "00", "01", "-01", "007", " 1", "1 ", "1\n", "\n1", "--1", "1-", "1.0", "1_0",
               "0x1", "one", "none", "None", "True", "1,1", "10" * 20 + "0", "-" + "9" * 41, "1" + "0" * 5000, "0" * 40,
               "1/1", "~", "1e3"]


def not_read(case, reader, value):
    """Checks that a reader raises NoText with the very value."""
    with case.assertRaises(NoText) as caught:
        reader(value)
    case.assertIs(type(caught.exception), NoText)
    case.assertIs(caught.exception.thing, value)


class ReadersTest(unittest.TestCase):

    def refuse(self, reader, texts):
        for text in texts:
            not_read(self, reader, text)

    def any_value(self, reader, texts=()):
        """Checks that no value but these texts is read."""
        for value in strange_values():
            if not isinstance(value, str) or value not in texts:
                not_read(self, reader, value)
                not_read(self, reader, [value])
                not_read(self, reader, (value,))


class RuleTest(ReadersTest):

    def test_there_and_back(self):
        for rests in range(3):
            for rule in Rule.all_of(rests):
                self.assertEqual(show_rule(rule), rule.table + " " + str(rests))
                self.assertEqual(read_rule(show_rule(rule)), rule)
                self.assertIsInstance(read_rule(show_rule(rule)), Rule)

    def test_no_texts(self):
        self.refuse(read_rule, ["", " ", "0111", "0111 ", "0111  1", " 0111 1", "0111 1 ", "0111 1\n", "0111\n1", "0111 3",
                                "0111 -1", "0111 01", "0111 +1", "0111 11", "011 1", "01110 1", "0121 1", "0111 1 1",
                                "0111 01", "0111 " + FORTY, "0111 None", "\n0111 1", "0111 x", "0111,1", "0111/1"])
        self.refuse(read_rule, ["0111 " + word for word in NO_INTEGERS])
        self.any_value(read_rule)
        self.refuse(read_rule, [WAVE, ("0111", 1), ["0111 1"], b"0111 1"])


class CalendarTest(ReadersTest):

    def test_shown(self):
        for calendar, text in ((Calendar(5, [1, 2], 4, [1, 3]), "4 1,2 2 1"), (Calendar(1, [], 1, []), "1 none 1 none"),
                               (Calendar(1, [], 1, [0]), "1 none 1 0"), (Calendar(9, [8, 2], 6, [0, 3]), "9 2,8 3 0"),
                               (Calendar(7, [6], 1, []), "7 6 1 none"), (Calendar(3, [], 3, [0]), "1 none 3 0"),
                               (Calendar(4, [1], 5, [2, 4]), "3 1 5 2,4"), (Calendar.of_steps([3, 5]), "8 3,5,6 1 0")):
            self.assertEqual(show_calendar(calendar), text)
            self.assertEqual(read_calendar(text), calendar)
            self.assertIsInstance(read_calendar(text), Calendar)

    def test_there_and_back(self):
        for steps in ([], [1], [2], [4, 6], [6, 10, 15], [7, 11], [40, 39], [60 // 2, 40], [9, 6]):
            for calendar in (Calendar.of_steps(steps), ~Calendar.of_steps(steps)):
                text = show_calendar(calendar)
                self.assertEqual(read_calendar(text), calendar)
                self.assertEqual(show_calendar(read_calendar(text)), text)

    def test_not_plain(self):
        # The same sizes as of "4 1,2 2 1", of "1 none 1 0", of "1 none 1 none" and of "2 none 3 1".
        self.refuse(read_calendar, ["5 1,2 2 1", "5 1,2 4 1,3", "4 2,1 2 1", "4 1,2 4 1,3", "4 1,2 4 3,1",
                                    "1 none 2 0,1", "2 1 1 0", "1 none 2 none", "2 none 1 none",
                                    "1 none 6 1,4", "5 4 3 1", "4 1,1 2 1", "4 1,2 2 1,1"])
        self.assertEqual(read_calendar("2 none 3 1"), Calendar(4, [], 3, [1]))

    def test_bounds(self):
        self.assertEqual(read_calendar("2000 1999 1 none"), Calendar(2000, [1999], 1, []))
        self.assertEqual(read_calendar("1 none 60 7"), Calendar(1, [], 60, [7]))
        self.assertEqual(read_calendar("2000 1999 60 7").period, 60)
        self.refuse(read_calendar, ["2001 2000 1 none", "1 none 61 7", "2001 2000 60 7", "2000 1999 61 7",
                                    FORTY + " none 1 none", "1 none " + FORTY + " 0"])
        self.assertEqual(show_calendar(Calendar(2001, [2000], 61, [7])), "2001 2000 61 7")

    def test_no_texts(self):
        self.refuse(read_calendar, ["", " ", "4", "4 1,2", "4 1,2 2", "4 1,2 2 1 1", "4  1,2 2 1", " 4 1,2 2 1",
                                    "4 1,2 2 1 ", "4 1,2 2 1\n", "4 1,2 2\n1", "\n4 1,2 2 1", "4 1, 2 2 1", "4 1,,2 2 1",
                                    "4 ,1,2 2 1", "4 1,2, 2 1", "4  2 1", "4 1,2 2 ", "0 none 1 none", "1 none 0 none",
                                    "4 0,1,2 2 1", "4 1,2,4 2 1", "4 1,2 2 2", "4 1,2 2 -1", "4 -1,2 2 1", "-4 1,2 2 1",
                                    "4 none,1 2 1", "4 None 2 1", "4 [] 2 1", "4 1;2 2 1", "4 01,2 2 1"])
        for word in NO_INTEGERS:
            self.refuse(read_calendar, [word + " 1,2 2 1", "4 1,2 " + word + " 1", "4 1," + word + " 2 1",
                                        "4 " + word + ",2 2 1"])
            if word != "none":
                self.refuse(read_calendar, ["7 " + word + " 1 none", "1 none 2 " + word])
        self.any_value(read_calendar)
        self.refuse(read_calendar, [Calendar(1, [], 1, []), (1, [], 1, []), ["4 1,2 2 1"], b"4 1,2 2 1"])


class ShapeTest(ReadersTest):

    def test_there_and_back(self):
        for p, q, text in ((-1, 2, "-1/2"), (0, 1, "0/1"), (5, 1, "5/1"), (-10 ** 39, 10 ** 39, "-1" + "0" * 39 + "/1" + "0" * 39)):
            self.assertEqual(show_shape((p, q)), text)
            self.assertEqual(read_shape(text), (p, q))
            self.assertIsInstance(read_shape(text), tuple)
        self.assertEqual(read_shape("-" + FORTY + "/" + FORTY), (-int(FORTY), int(FORTY)))

    def test_no_texts(self):
        self.refuse(read_shape, ["", "/", "1", "1/", "/1", "1/0", "0/0", "1/-1", "-0/1", "1/2/3", "1//2", "1 /2", "1/ 2",
                                 " 1/2", "1/2 ", "1/2\n", "\n1/2", "1|2", "1 2", "01/2", "1/02", "+1/2", "1/+2"])
        for word in NO_INTEGERS:
            self.refuse(read_shape, [word + "/1", "1/" + word])
        self.any_value(read_shape)
        self.refuse(read_shape, [(1, 2), ["1/2"], b"1/2"])


class DeedTest(ReadersTest):

    DEEDS = [(("beats", 2), "beats 2"), (("beats", 1), "beats 1"), (("beats", 50), "beats 50"),
             (("seat", 0, "1"), "seat 0 1"), (("seat", 39, "3"), "seat 39 3"), (("seat", 10 ** 39, "0"), "seat 1" + "0" * 39 + " 0"),
             (("turn", -3), "turn -3"), (("turn", 0), "turn 0"), (("turn", -10 ** 39), "turn -1" + "0" * 39),
             (("turn", int(FORTY)), "turn " + FORTY), (("turn", -int(FORTY)), "turn -" + FORTY),
             (("table", "0111"), "table 0111"), (("table", "0000"), "table 0000"),
             (("hold", 0), "hold 0"), (("hold", int(FORTY)), "hold " + FORTY), (("free", 0), "free 0"), (("free", 41), "free 41")]

    def test_there_and_back(self):
        for deed, text in self.DEEDS:
            self.assertEqual(show_deed(deed), text)
            self.assertEqual(read_deed(text), deed)
            self.assertIsInstance(read_deed(text), tuple)
            self.assertEqual(list(map(type, read_deed(text))), list(map(type, deed)))

    def test_no_texts(self):
        for _, text in self.DEEDS:
            self.refuse(read_deed, [text + " ", " " + text, text + "\n", "\n" + text, text + " 1", text.replace(" ", "  ", 1),
                                    text.replace(" ", "\n", 1), text.replace(" ", "", 1), text.replace(" ", ",", 1),
                                    text.upper(), text + "\n" + text])
        self.refuse(read_deed, ["", " ", "\n", "beats", "beats ", "beats 0", "beats 51", "beats -1", "seat", "seat 0", "seat 0 ",
                                "seat 0 4", "seat 0 01", "seat 0 x", "seat -1 0", "seat 0 1 1", "turn", "turn ", "table", "table ",
                                "table 011", "table 01110", "table 0121", "table 0111 1", "hold", "hold -1", "hold 0 0", "free",
                                "free -1", "undo", "redo", "none", "text", "hold none", "beat 1", "size 1 1 1"])
        for word in NO_INTEGERS:
            self.refuse(read_deed, ["beats " + word, "seat " + word + " 1", "turn " + word, "table " + word, "hold " + word,
                                    "free " + word, "seat 0 " + word])
        self.any_value(read_deed)
        self.refuse(read_deed, [deed for deed, _ in self.DEEDS] + [["beats 2"], b"beats 2"])


class PathTest(ReadersTest):

    def test_there_and_back(self):
        for stands, text in ((["10", "21"], "10\n21"), (["0"], "0"), (["0123", "3"], "0123\n3"), (["1", "22", "0" * 40], "1\n22\n" + "0" * 40),
                             (["0", "0", "0"], "0\n0\n0")):
            self.assertEqual(show_path(stands), text)
            self.assertEqual(read_path(text), stands)
            self.assertIsInstance(read_path(text), list)

    def test_no_texts(self):
        self.refuse(read_path, ["", "\n", "0\n", "\n0", "0\n\n0", "4", "0\n4", "0 1", " 0", "0 ", "x", "none", "-1", "0,1", "0\n \n0"])
        self.any_value(read_path, ["0", "0111", "012"])
        self.refuse(read_path, [["10", "21"], ("0",), b"0"])

    def test_new_lists(self):
        read_path("10\n21").append("x")
        stands = ["10", "21"]
        show_path(stands)
        self.assertEqual((read_path("10\n21"), stands), (["10", "21"], ["10", "21"]))


class LogTest(ReadersTest):

    def read(self, lines):
        return read_log(WAVE, "0000", lines)

    def broken(self, lines, line, text="0000", rule=WAVE):
        with self.assertRaises(Broken) as caught:
            read_log(rule, text, lines)
        self.assertIs(type(caught.exception), Broken)
        self.assertEqual(caught.exception.line, line)

    def test_there_and_back(self):
        game = Game(WAVE, "0000")
        self.assertEqual(show_log(game), "none")
        self.assertEqual(self.read("none"), game)
        for deed in (("seat", 1, "1"), ("beats", 2), ("hold", 1), ("turn", -10 ** 39), ("table", "0110"), ("turn", 10 ** 39),
                     ("free", 1), ("beats", 50)):
            game.do(deed)
            lines = show_log(game)
            other = self.read(lines)
            self.assertEqual(other, game)
            self.assertEqual((other.text, other.rule, other.held(), other.beats),
                             (game.text, game.rule, game.held(), game.beats))
            self.assertEqual(show_log(other), lines)
        self.assertEqual(show_log(game).split("\n")[:3], ["seat 1 1", "beats 2", "hold 1"])
        game.undo()
        self.assertEqual(show_log(game).split("\n")[-1], "free 1")

    def test_begun_so(self):
        game = read_log(Rule("0010", 2), "0123", "seat 0 3\nbeats 1")
        self.assertEqual((game.rule, game.text, game.past(0).text), (Rule("0010", 2), "0230", "0123"))
        self.assertEqual(game.log(), [("seat", 0, "3"), ("beats", 1)])

    def test_no_texts(self):
        self.refuse(self.read, ["", " ", "\n", "none\n", " none", "none\nnone", "beats 1\nnone", "none\nbeats 1", "beats 1\n", "\nbeats 1",
                                "beats 1\n\nbeats 1", "beats 1 ", "beats 51", "beats 0", "turn 1\nturn +1", "turn -0",
                                "hold 0\nhold 00", "seat 0 4", "undo", "beats 1\nredo", "None", "[]", "turn 1" + "0" * 40])
        self.any_value(self.read)
        self.refuse(self.read, [["beats 1"], [("beats", 1)], ("beats 1",), [], b"none", Game(WAVE, "0")])

    def test_broken(self):
        # By its form for this Game, by the seat as it is, and by too many.
        self.broken("hold 4", 0)
        self.broken("turn 1\nseat 0 3", 1)
        self.broken("turn 1\nturn 1\nseat " + FORTY + " 1", 2)
        self.broken("hold 0\nhold 0", 1)
        self.broken("hold 0\nfree 0\nfree 0\nhold 9", 2)
        self.broken("seat 2 0", 0)
        self.broken("\n".join(["turn 0"] * 201), 200)
        self.broken("\n".join(["turn 0"] * 250), 200)
        self.broken("\n".join(["turn 0"] * 199 + ["hold 4", "turn 0"]), 199)
        self.assertEqual(len(self.read("\n".join(["turn 0"] * 200))), 200)
        self.broken("seat 0 2", 0, "00", Rule("0111", 0))

    def test_no_text_ahead_of_broken(self):
        self.refuse(self.read, ["hold 0\nhold 0\nhold", "hold 9\nx", "\n".join(["turn 0"] * 201 + ["turn"])])


if __name__ == "__main__":
    unittest.main()
