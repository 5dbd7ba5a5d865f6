"""[20] errors, and what [3] and [4] say of them."""

import inspect
import pathlib
import re
import unittest

import standwaves
from standwaves import errors
from tests.plain import strange_values

FIELDS = {
    "Wrong": ["place"], "NoStand": ["rows"], "TooMany": ["limit"], "NoWalk": ["thing"],
    "NoNumber": ["number"], "Jump": ["seat"], "Turns": ["number"], "NoPlace": ["place"],
    "NoSeats": ["seats"], "NoDeed": ["deed"], "Full": ["limit"], "Refused": ["deed"],
    "Nothing": [], "NoEntry": ["many"], "NoText": ["thing"], "Broken": ["line"],
    "NoCommand": ["line"],
}


class ErrorsTest(unittest.TestCase):

    def test_all_are_there_and_no_others(self):
        found = {name for name, thing in vars(errors).items() if inspect.isclass(thing)}
        self.assertEqual(found, set(FIELDS) | {"WaveError"})
        self.assertEqual(len(FIELDS), 17)

    def test_wave_error_is_a_value_error(self):
        self.assertEqual(errors.WaveError.__bases__, (ValueError,))

    def test_each_is_a_direct_subclass_of_wave_error_alone(self):
        for name in FIELDS:
            self.assertEqual(getattr(errors, name).__bases__, (errors.WaveError,), name)
            self.assertEqual(getattr(errors, name).__module__, "standwaves.errors")

    def test_signatures(self):
        for name, fields in FIELDS.items():
            told = list(inspect.signature(getattr(errors, name)).parameters)
            self.assertEqual(told, fields, name)

    def test_fields_are_the_very_objects(self):
        for name, fields in FIELDS.items():
            for value in strange_values():
                error = getattr(errors, name)(*[value for _ in fields])
                for field in fields:
                    self.assertIs(getattr(error, field), value, name)

    def test_a_list_that_is_kept_is_no_copy(self):
        rows = ["0"]
        error = errors.NoStand(rows)
        rows.append("1")
        self.assertEqual(error.rows, ["0", "1"])

    def test_arguments_may_be_named(self):
        self.assertEqual(errors.Wrong(place=2).place, 2)
        self.assertEqual(errors.NoEntry(many=-1).many, -1)

    def test_each_is_caught_as_wave_error(self):
        for name, fields in FIELDS.items():
            with self.assertRaises(errors.WaveError):
                raise getattr(errors, name)(*[0 for _ in fields])

    def test_no_file_raises_wave_error_itself(self):
        for path in pathlib.Path(standwaves.__file__).parent.glob("*.py"):
            self.assertIsNone(re.search(r"raise\s+WaveError", path.read_text()), path.name)


if __name__ == "__main__":
    unittest.main()
