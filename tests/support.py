"""Values that several tests share."""

from itertools import permutations
from unittest.mock import ANY

from calmlists.rolls import Roll


def orders_of(things, many=None):
    """The first so many orders of some things, or all of them, ascending."""
    return tuple(["".join(each) for each in permutations(things)][:many])


class Shy:
    """An object that cannot be compared."""

    def __eq__(self, other):
        raise AssertionError("compared")

    def __hash__(self):
        raise AssertionError("hashed")


def nested(depth):
    value = ()
    for _ in range(depth - 1):
        value = (value,)
    return value


# ANY calls itself equal to everything.
NO_STRINGS = [
    None, True, False, 0, 1, 3, -1, 10 ** 90, b"", b"abc", b"abc\nbca", (), ("abc",), ("a", "b", "c"), nested(10),
    [], ["abc"], ["a", "b", "c"], {}, {"abc": 1}, {"abc"}, object(), Shy(), ANY, str, Roll, len, Roll(("abc",)),
]
NO_ORDER_STRINGS = [
    "", "a", "b", "ab", "abcdefg", "abcdefgh", "abcdefghijklmnopqrstuvwxyz", "a" * 4000, "aaa", "aab", "aba", "baa",
    "aabc", "abcc", "abcdea", "abcdeff", "Abc", "aBc", "abC", "ABC", " abc", "abc ", "a bc", "a b c", "ab ", "   ",
    "abc\n", "\nabc", "ab\n", "abc\nbca", "ab1", "123", "ab-", "ab`", "ab{", "`ab", "{ab", "ab~", "a,b,c",
]
NO_ORDERS = NO_STRINGS + NO_ORDER_STRINGS
