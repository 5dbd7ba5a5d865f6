"""The examples of the document, as it shows them."""

import doctest
import unittest

STAGE_1 = '''
>>> from standwaves.rules import Rule
>>> rule = Rule("0111")
>>> [rule.signs, rule("1", "0", "0"), rule("0", "2", "1"), rule.ring_after("1000"), rule.inner_after("20100")]
['012', '1', '0', '2101', '121']
>>> [rule.mirrored() == rule, rule.with_bit(1).table, rule.stirs("00"), rule.is_still("000"), len(Rule.all_of(0))]
[True, '0011', False, True, 16]
'''

STANDS = '''
>>> from standwaves.stands import all_turns, from_windows, least_part, turned_by, turns_between, window_at
>>> [turned_by("0012", 1), turned_by("0012", -1), least_part("2121"), all_turns("0101"), turns_between("0101", "1010")]
['2001', '0120', '21', ['0101', '1010'], [1, 3]]
>>> [window_at("012", 0, 2), from_windows(["201", "012", "120"])]
['12012', '012']
'''

EXAMPLES = [STAGE_1, STANDS]


class ExamplesTest(unittest.TestCase):

    def test_examples(self):
        told = doctest.DocTestParser().get_doctest("\n".join(EXAMPLES), {}, "examples", None, 0)
        lines = []
        result = doctest.DocTestRunner(verbose=False).run(told, out=lines.append)
        self.assertEqual(result.failed, 0, "".join(lines))
        self.assertEqual(result.attempted, "".join(EXAMPLES).count(">>>"))


if __name__ == "__main__":
    unittest.main()
