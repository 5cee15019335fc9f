"""Values that several tests share, and what the document's definitions say, word by word, of rolls and crowds."""

import unittest
from itertools import combinations, permutations, product
from unittest.mock import ANY

from calmlists.errors import NotARoll
from calmlists.rolls import Roll


def orders_of(things, many=None):
    """The first so many orders of some things, or all of them, ascending."""
    return tuple(["".join(each) for each in permutations(things)][:many])


class Shy:
    """An object that cannot be compared."""

    def __eq__(self, other):
        raise AssertionError("compared")

    def __hash__(self):
        raise AssertionError("hashed")


def nested(depth):
    value = ()
    for _ in range(depth - 1):
        value = (value,)
    return value


# ANY calls itself equal to everything.
NO_STRINGS = [
    None, True, False, 0, 1, 3, -1, 10 ** 90, b"", b"abc", b"abc\nbca", (), ("abc",), ("a", "b", "c"), nested(10),
    [], ["abc"], ["a", "b", "c"], {}, {"abc": 1}, {"abc"}, object(), Shy(), ANY, str, Roll, len, Roll(("abc",)),
]
NO_ORDER_STRINGS = [
    "", "a", "b", "ab", "abcdefg", "abcdefgh", "abcdefghijklmnopqrstuvwxyz", "a" * 4000, "aaa", "aab", "aba", "baa",
    "aabc", "abcc", "abcdea", "abcdeff", "Abc", "aBc", "abC", "ABC", " abc", "abc ", "a bc", "a b c", "ab ", "   ",
    "abc\n", "\nabc", "ab\n", "abc\nbca", "ab1", "123", "ab-", "ab`", "ab{", "`ab", "{ab", "ab~", "a,b,c",
]
NO_ORDERS = NO_STRINGS + NO_ORDER_STRINGS
NO_ROLLS = [each for each in NO_ORDERS if not isinstance(each, Roll)] + [
    "abc", ("abc", "bca"), ["abc", "bca"], Roll(("abc",)).orders, (Roll(("abc",)),),
]
# Of the things a, b, c, d.
NO_THREES = NO_STRINGS + [
    "", "a", "ab", "ad", "abcd", "acb", "bac", "cba", "aab", "abb", "aaa", "abe", "abz", "xyz", "ABC", "Abc", " ab", "ab ",
    "abc ", " abc", "abc\n", "abc\nabd", "a,b", "a b c", "123",
]
NO_THINGS = NO_STRINGS + ["", "ab", "abc", "abcd", "aa", "e", "z", "A", " ", "a ", " a", "\n", "a\n", "`", "{", "1", "a" * 4000]


class Case(unittest.TestCase):
    def refused(self, error, attribute, value, call, *values, **named):
        """The call raises exactly this error, with exactly this value as its attribute."""
        with self.assertRaises(error) as held:
            call(*values, **named)
        self.assertIs(held.exception.__class__, error)
        self.assertIs(getattr(held.exception, attribute), value)

    def refuses_no_rolls(self, call, *more):
        """In the first place, called `roll`, the call takes rolls alone, whatever stands behind."""
        for value in NO_ROLLS:
            self.refused(NotARoll, "given", value, call, value, *more)
            if not more:
                self.refused(NotARoll, "given", value, call, roll=value)


def all_rolls(things):
    """All rolls of some things."""
    orders = orders_of(things)
    return [Roll(each) for many in range(1, len(orders) + 1) for each in combinations(orders, many)]


def threes_in(things):
    return ["".join(each) for each in combinations(sorted(things), 3)]


def where(order, three, thing):
    """0 for the first one of the three, 1 for the middle one, 2 for the last one."""
    return sorted(three, key=order.index).index(thing)


def are_a_wheel(orders, three):
    """Whether three orders are a wheel for three things."""
    return len(orders) == 3 and all(sorted(where(order, three, thing) for order in orders) == [0, 1, 2] for thing in three)


def has_wheel(orders, three):
    return any(are_a_wheel(each, three) for each in combinations(orders, 3))


def calm(orders):
    return not any(has_wheel(orders, three) for three in threes_in(orders[0]))


def beaten(people, thing, other):
    """Whether a thing beats another one, by the orders of all people, one by one."""
    above = len([order for order in people if order.index(thing) < order.index(other)])
    below = len([order for order in people if order.index(thing) > order.index(other)])
    return above > below


def rounds(people):
    """All rounds of some people."""
    things = sorted(people[0])
    strings = [each for many in range(3, len(things) + 1) for each in permutations(things, many)]
    beats = {pair: beaten(people, *pair) for pair in permutations(things, 2)}
    return ["".join(each) for each in strings if all(beats[each[at - 1], each[at]] for at in range(len(each)))]


def most(people):
    """The order of the most; None if there is none."""
    left, order = sorted(people[0]), ""
    while left:
        ahead = [thing for thing in left if all(beaten(people, thing, other) for other in left if other != thing)]
        if not ahead:
            return None
        order += ahead[0]
        left.remove(ahead[0])
    return order


def people_of(orders, numbers):
    """The orders of all people."""
    return [order for order, number in zip(orders, numbers) for _ in range(number)]


def all_numbers(many, people):
    """The numbers of all crowds with up to so many people over a roll of so many orders."""
    return [each for each in product(range(people + 1), repeat=many) if 1 <= sum(each) <= people]
