import random
import unittest
from itertools import combinations, permutations, product

from calmlists.crowds import Crowd
from calmlists.errors import InvalidOrders, NotCalm
from calmlists.most import hull, is_closed, is_spoken, of_three, open_three, unspoken_three
from calmlists.rolls import Roll
from calmlists.threes import is_calm, rough
from samples import CALM, FOUR, HILLS, LARGE, PARTS, ROUGH, SIX, SOME, SQUARE, WHEEL, kept_calm
from support import (
    NO_ORDERS, Case, all_numbers, all_rolls, are_a_wheel, calm, most, nested, orders_of, people_of, threes_in,
)


def closed(orders):
    """Whether the order of the most of each three of the orders of a calm roll is in the roll."""
    return all(most(list(three)) in orders for three in combinations(orders, 3))


def spoken(orders):
    return all(most(list(three)) in three for three in combinations(orders, 3))


def least_closed(orders):
    """All that comes of a calm roll if orders of the most are put in."""
    held = list(orders)
    while True:
        found = {most(list(three)) for three in combinations(held, 3)} - set(held)
        if not found:
            return tuple(sorted(held))
        held = sorted([*held, *found])


class OfThreeTest(Case):
    def test_three_unlike_orders(self):
        for roll in (HILLS, WHEEL, FOUR, SOME, SQUARE, Roll(orders_of("abc"))):
            for orders in permutations(roll.orders, 3):
                self.assertEqual(of_three(roll, orders), most(list(orders)))
                self.assertEqual(of_three(orders=orders, roll=roll), most(list(orders)))

    def test_the_order_need_not_be_in_the_roll(self):
        self.assertEqual(of_three(SOME, ("cbad", "abcd", "bcda")), "bcad")

    def test_none_if_they_go_round(self):
        for orders in permutations(("abc", "bca", "cab")):
            self.assertIs(of_three(WHEEL, orders), None)
        every = Roll(orders_of("abcd"))
        for orders in list(combinations(every.orders, 3))[::17]:
            goes = any(are_a_wheel(orders, three) for three in threes_in("abcd"))
            self.assertIs(of_three(every, orders) is None, goes)

    def test_an_order_twice_or_three_times(self):
        for roll in (HILLS, WHEEL, SOME, Roll(("cba",)), Roll(SIX[:48])):
            for one, other in product(roll.orders[:6], repeat=2):
                for orders in ((one, one, other), (one, other, one), (other, one, one), (one, one, one)):
                    self.assertEqual(of_three(roll, orders), one)

    def test_no_roll(self):
        self.refuses_no_rolls(of_three, ("abc", "abc", "abc"))
        self.refuses_no_rolls(of_three, None)
        self.refuses_no_rolls(of_three, (None,))

    def wrong(self, roll, orders, index):
        with self.subTest(orders=repr(orders)[:80]):
            self.refused(InvalidOrders, "index", index, of_three, roll, orders)
            self.refused(InvalidOrders, "index", index, of_three, roll=roll, orders=orders)

    def test_no_tuple(self):
        for value in [*NO_ORDERS, ["abc", "bac", "bca"], "abc", HILLS, {"abc": 1, "bac": 1, "bca": 1}]:
            if not isinstance(value, tuple):
                self.wrong(HILLS, value, None)

    def test_no_order_of_the_roll(self):
        for value in [*NO_ORDERS, "acb", "cab", "abd", "abcd", HILLS, nested(9)]:
            self.wrong(HILLS, (value, "abc", "abc"), 0)
            self.wrong(HILLS, ("abc", value, "abc"), 1)
            self.wrong(HILLS, ("abc", "cba", value), 2)
            self.wrong(HILLS, (value,), 0)
            self.wrong(HILLS, ("abc", value), 1)

    def test_one_too_many(self):
        for value in [*NO_ORDERS, "abc", "acb"]:
            self.wrong(HILLS, ("abc", "abc", "cba", value), 3)
            self.wrong(HILLS, ("abc", "abc", "cba", "bac", value), 3)
        self.wrong(HILLS, HILLS.orders, 3)

    def test_too_few(self):
        self.wrong(HILLS, (), 0)
        self.wrong(HILLS, ("abc",), 1)
        self.wrong(HILLS, ("abc", "abc"), 2)

    def test_the_first_one_that_is_wrong_counts(self):
        self.wrong(HILLS, ("abc", "acb", None), 1)
        self.wrong(HILLS, ("abc", None, "abc", "abc"), 1)
        self.wrong(HILLS, ("acb",) * 5, 0)


class ClosedTest(Case):
    def right(self, roll):
        """What is told of a calm roll."""
        told, found = closed(roll.orders), open_three(roll)
        self.assertIs(is_closed(roll), told)
        self.assertIs(is_closed(roll=roll), told)
        self.assertEqual(open_three(roll=roll), found)
        if told:
            self.assertIs(found, None)
        else:
            self.three(roll, found)
            self.assertNotIn(most(list(found)), (None, *roll.orders))

    def three(self, roll, found):
        self.assertIs(found.__class__, tuple)
        self.assertEqual(len(found), 3)
        self.assertEqual(list(found), sorted(set(found)))
        self.assertEqual([order for order in found if order not in roll.orders], [])

    def test_calm_rolls(self):
        for roll in CALM:
            if len(roll) < 14:
                self.right(roll)
        self.assertIn(False, [is_closed(roll) for roll in PARTS])

    def test_rolls_of_three_things(self):
        # With a place upon the only three things there is always one.
        self.assertEqual([roll for roll in all_rolls("abc") if is_closed(roll) is not calm(roll.orders)], [])

    def test_exactly_if_so_for_odd_crowds(self):
        for roll in [SOME, SQUARE, *[part for part in PARTS if len(part) <= 5]]:
            crowds = [numbers for numbers in all_numbers(len(roll), 5) if sum(numbers) % 2 == 1]
            found = [most(people_of(roll.orders, numbers)) for numbers in crowds]
            self.assertIs(is_closed(roll), all(order in roll.orders for order in found))

    def test_full_rolls_are_closed(self):
        for roll in [FOUR, *LARGE]:
            self.assertIs(is_closed(roll), True)
            self.assertIs(open_three(roll), None)

    def test_rough_rolls_are_not(self):
        for roll in ROUGH:
            self.assertIs(is_closed(roll), False)
            found = open_three(roll)
            self.three(roll, found)
            wheel = any(are_a_wheel(found, three) for three in threes_in(roll.things))
            self.assertTrue(wheel or most(list(found)) not in roll.orders)

    def test_one_order_and_two(self):
        for orders in (("abc",), ("fedcba",), ("abc", "cba"), ("abcdef", "badcfe"), (SIX[100], SIX[500])):
            self.assertIs(is_closed(Roll(orders)), True)
            self.assertIs(open_three(Roll(orders)), None)

    def test_no_roll(self):
        self.refuses_no_rolls(is_closed)
        self.refuses_no_rolls(open_three)


class SpokenTest(Case):
    def right(self, roll):
        told, found = spoken(roll.orders), unspoken_three(roll)
        self.assertIs(is_spoken(roll), told)
        self.assertIs(is_spoken(roll=roll), told)
        self.assertEqual(unspoken_three(roll=roll), found)
        if told:
            self.assertIs(found, None)
            self.assertTrue(is_closed(roll))
        else:
            ClosedTest.three(self, roll, found)
            self.assertNotIn(most(list(found)), (None, *found))

    def test_calm_rolls(self):
        for roll in CALM:
            if len(roll) < 14:
                self.right(roll)
        for roll in LARGE:
            self.assertFalse(is_spoken(roll))
        # Closed, but not spoken, as FOUR.
        self.assertEqual((is_closed(FOUR), is_spoken(FOUR)), (True, False))
        self.assertEqual((is_closed(SQUARE), is_spoken(SQUARE)), (True, True))

    def test_exactly_if_so_for_odd_crowds(self):
        for roll in [SOME, SQUARE, HILLS, *[part for part in PARTS if len(part) <= 5]]:
            told = True
            for numbers in all_numbers(len(roll), 5):
                people = people_of(roll.orders, numbers)
                if len(people) % 2 == 1 and most(people) not in people:
                    told = False
            self.assertIs(is_spoken(roll), told)

    def test_rough_rolls_are_not(self):
        for roll in ROUGH:
            self.assertIs(is_spoken(roll), False)
            found = unspoken_three(roll)
            ClosedTest.three(self, roll, found)
            wheel = any(are_a_wheel(found, three) for three in threes_in(roll.things))
            self.assertTrue(wheel or most(list(found)) not in found)

    def test_one_order_and_two(self):
        for orders in (("abc",), ("fedcba",), ("abc", "cba"), ("abcdef", "badcfe"), (SIX[100], SIX[500])):
            self.assertIs(is_spoken(Roll(orders)), True)
            self.assertIs(unspoken_three(Roll(orders)), None)

    def test_no_roll(self):
        self.refuses_no_rolls(is_spoken)
        self.refuses_no_rolls(unspoken_three)


class HullTest(Case):
    def test_all_that_comes_of_it(self):
        for roll in CALM:
            if len(roll) < 14:
                found = hull(roll)
                self.assertIs(found.__class__, Roll)
                self.assertEqual(found.orders, least_closed(roll.orders))
                self.assertEqual(hull(roll=roll), found)

    def test_calm_and_closed_and_holds_the_roll(self):
        for roll in CALM:
            before, found = roll.orders, hull(roll)
            self.assertTrue(calm(found.orders) if len(found) < 14 else is_calm(found))
            self.assertTrue(is_closed(found))
            self.assertEqual([order for order in before if order not in found], [])
            self.assertEqual(roll.orders, before)
            self.assertEqual(found.things, roll.things)
            self.assertEqual(hull(found), found)

    def test_lies_in_each_closed_calm_roll_that_holds_it(self):
        for whole in (FOUR, kept_calm("abcd", 4), kept_calm("abcd", 11)):
            parts = [each for many in range(1, len(whole) + 1) for each in combinations(whole.orders, many)]
            ways = [set(each) for each in parts if closed(each)]
            for each in parts[::3]:
                around = [way for way in ways if way >= set(each)]
                self.assertEqual(set(hull(Roll(each)).orders), set.intersection(*around))

    def test_a_closed_roll_stays(self):
        for roll in [HILLS, FOUR, SQUARE, *LARGE, Roll(("abc",)), Roll(("abcdef", "fedcba"))]:
            self.assertEqual(hull(roll), roll)

    def test_rolls_that_are_not_calm(self):
        for roll in ROUGH:
            with self.assertRaises(NotCalm) as held:
                hull(roll)
            self.assertIs(held.exception.__class__, NotCalm)
            self.assertEqual(held.exception.given, "\n".join(roll.orders))
            self.assertIs(held.exception.given.__class__, str)
            with self.assertRaises(NotCalm):
                hull(roll=roll)

    def test_no_roll(self):
        self.refuses_no_rolls(hull)


class ManyPeopleTest(Case):
    def test_the_order_of_the_most_of_many_is_in_the_hull(self):
        chosen = random.Random(8)
        for roll in [SOME, *LARGE, *PARTS[:40]]:
            around = hull(roll)
            for _ in range(4):
                numbers = [chosen.choice((0, 1, 2, 7, 10 ** 80)) for _ in roll.orders]
                numbers[0] += 1 - sum(numbers) % 2
                self.assertIn(Crowd(roll, tuple(numbers)).order(), around)

    def test_rough_rolls_have_three_people_who_go_round(self):
        for roll in ROUGH:
            self.assertIs(of_three(roll, rough(roll)[1]), None)


class ExamplesTest(Case):
    def test_of_the_document(self):
        self.assertEqual(
            [of_three(SOME, ("abcd", "cbad", "bcda")), of_three(WHEEL, ("abc", "bca", "cab")), is_closed(HILLS),
             is_spoken(HILLS), is_closed(FOUR), is_spoken(FOUR), is_closed(SOME), open_three(SOME)],
            ["bcad", None, True, True, True, False, False, ("abcd", "bcda", "cbad")])
        self.assertEqual(
            [str(hull(SOME)), hull(HILLS) == HILLS, is_spoken(hull(SOME)), unspoken_three(hull(SOME))],
            ["abcd\nbcad\nbcda\ncbad", True, False, ("abcd", "bcda", "cbad")])
        # Any three orders that are a wheel; this roll has but these.
        self.assertEqual(open_three(WHEEL), ("abc", "bca", "cab"))


if __name__ == "__main__":
    unittest.main()
