"""What the tests share: the definitions of the document word by word, and values of any kind."""

from itertools import product

from standwaves.rules import Rule


def plain_beat(table, rests, text):
    """Returns a stand a beat later, by the words of the definition."""
    last = "123"[rests]
    after = ""
    for seat in range(len(text)):
        left = 1 if text[seat - 1] == "1" else 0
        right = 1 if text[(seat + 1) % len(text)] == "1" else 0
        if text[seat] == "0":
            after += "1" if table[2 * left + right] == "1" else "0"
        elif text[seat] == last:
            after += "0"
        else:
            after += {"1": "2", "2": "3"}[text[seat]]
    return after


def plain_after(rule, text, many):
    """Returns a stand many beats later."""
    for _ in range(many):
        text = plain_beat(rule.table, rule.rests, text)
    return text


def plain_turn(text, p):
    """Returns a stand turned by p."""
    return "".join(text[(seat - p) % len(text)] for seat in range(len(text)))


def plain_stands(rule, size):
    """Returns all stands of a rule, of one size, ascending."""
    return ["".join(signs) for signs in product("0123"[:2 + rule.rests], repeat=size)]


def some_rules():
    """Returns Rules with none to two rests, those with unlike sides among them."""
    return [Rule("0111"), Rule("0110"), Rule("0010"), Rule("1001"), Rule("0001"), Rule("1111"),
            Rule("0110", 0), Rule("0100", 0), Rule("1011", 0), Rule("0111", 0), Rule("0000", 0),
            Rule("0111", 2), Rule("0010", 2), Rule("1100", 2)]


def strange_values():
    """Returns values of many kinds, new ones at each call."""
    deep = []
    for _ in range(39):
        deep = [deep]
    return [None, True, False, 0, 1, -1, 10 ** 999, -10 ** 40, "", "0", "0111", "012", "x", "\n",
            b"", b"0111", [], (), {}, set(), [None], [1, 2], ["0", 1], (True,), {"a": [1]}, {0},
            frozenset(), [[]], deep, ["0"] * 9999, Rule, Rule("0000"), ValueError("x"), len, object(),
            range(3), Ellipsis, NotImplemented]
