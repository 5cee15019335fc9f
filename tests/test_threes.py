import unittest
from itertools import combinations, permutations

from calmlists.errors import InvalidOrder, InvalidThree
from calmlists.rolls import Roll
from calmlists.threes import is_calm, places, rough, threes, upon, wheel_in
from samples import FOUR, HILLS, SIX, WHEEL, drawn_rolls
from support import (
    NO_ORDERS, NO_THREES, Case, all_numbers, all_rolls, are_a_wheel, calm, has_wheel, orders_of, people_of, rounds,
    threes_in, where,
)

WORDS = ("first", "middle", "last")


def places_told(orders, three):
    """All places as the definition says them."""
    pairs = [(thing, at) for thing in three for at in range(3)]
    found = [pair for pair in pairs if all(where(order, three, pair[0]) != pair[1] for order in orders)]
    return tuple(sorted((thing, WORDS[at]) for thing, at in found))


MIXED = [*drawn_rolls("abcd", 60), *drawn_rolls("abcde", 40, 1, 12), *drawn_rolls("uvwxyz", 30, 1, 8)]


class ThreesTest(Case):
    def test_three_to_six_things(self):
        self.assertEqual(threes(HILLS), ("abc",))
        self.assertEqual(threes(Roll(("mza",))), ("amz",))
        self.assertEqual(threes(FOUR), ("abc", "abd", "acd", "bcd"))
        five = ("abc", "abd", "abe", "acd", "ace", "ade", "bcd", "bce", "bde", "cde")
        self.assertEqual(threes(Roll(("edcba",))), five)
        self.assertEqual(threes(roll=Roll(SIX[:48])), tuple("".join(each) for each in combinations("abcdef", 3)))
        self.assertEqual(len(threes(Roll(("zyxwvu",)))), 20)

    def test_ascending_strings_in_a_tuple(self):
        for roll in MIXED:
            found = threes(roll)
            self.assertIs(found.__class__, tuple)
            self.assertEqual(list(found), sorted(set(found)))
            self.assertEqual(found, tuple(threes_in(roll.things)))

    def test_no_roll(self):
        self.refuses_no_rolls(threes)


class UponTest(Case):
    def test_each_order_and_three(self):
        for things in ("abc", "abcd", "kmtz", "abcde", "abcdef"):
            for order in orders_of(things)[::7]:
                for three in threes_in(things):
                    told = "".join(sorted(three, key=order.index))
                    self.assertEqual(upon(order, three), told)
                    self.assertEqual(upon(three=three, order=order), told)

    def test_some_orders(self):
        self.assertEqual(upon("abc", "abc"), "abc")
        self.assertEqual(upon("cab", "abc"), "cab")
        self.assertEqual(upon("dcba", "abd"), "dba")
        self.assertEqual(upon("fxbadc", "abx"), "xba")
        self.assertEqual(upon("fxbadc", "acf"), "fac")

    def test_no_order(self):
        for value in NO_ORDERS:
            self.refused(InvalidOrder, "given", value, upon, value, "abc")
            self.refused(InvalidOrder, "given", value, upon, order=value, three="abc")

    def test_no_three_of_its_things(self):
        for value in NO_THREES:
            self.refused(InvalidThree, "given", value, upon, "dbca", value)
            self.refused(InvalidThree, "given", value, upon, order="dbca", three=value)
        for order, three in (("abc", "abd"), ("abd", "abc"), ("bca", "bca"), ("cab", "bca"), ("abcdef", "abg")):
            self.refused(InvalidThree, "given", three, upon, order, three)

    def test_the_order_is_looked_at_first(self):
        for value in NO_ORDERS:
            for three in (None, "cba", "xyz", [], 5):
                self.refused(InvalidOrder, "given", value, upon, value, three)


class PlacesTest(Case):
    def test_as_the_definition_says(self):
        for roll in [*all_rolls("abc"), *MIXED]:
            for three in threes_in(roll.things):
                found = places(roll, three)
                self.assertEqual(found, places_told(roll.orders, three))
                self.assertIs(found.__class__, tuple)
                self.assertEqual(places(three=three, roll=roll), found)

    def test_rolls_of_one_order(self):
        told = (("a", "last"), ("a", "middle"), ("b", "first"), ("b", "last"), ("c", "first"), ("c", "middle"))
        self.assertEqual(places(Roll(("abc",)), "abc"), told)
        for things in ("abc", "abcd", "abcde", "abcdef"):
            for order in orders_of(things)[::11]:
                for three in threes_in(things):
                    self.assertEqual(len(places(Roll((order,)), three)), 6)

    def test_rolls_of_48_orders(self):
        for orders in (SIX[:48], SIX[-48:], SIX[::15], orders_of("abcde", 48), orders_of("abcde")[72:]):
            roll = Roll(orders)
            self.assertEqual(len(roll), 48)
            for three in threes_in(roll.things):
                self.assertEqual(places(roll, three), places_told(orders, three))
        # In all these a stands ahead of b, and b ahead of the others.
        self.assertEqual(places(Roll(SIX[:24]), "abc"), places_told(("abc",), "abc"))
        self.assertEqual(places(Roll(SIX[:48]), "bcd"), (("d", "first"),))

    def test_none_where_there_is_a_wheel(self):
        self.assertEqual(places(WHEEL, "abc"), ())
        self.assertEqual(places(Roll(("acb", "bac", "cba")), "abc"), ())
        self.assertEqual(places(Roll(orders_of("abc")), "abc"), ())

    def test_wrong_values(self):
        self.refuses_no_rolls(places, "abc")
        self.refuses_no_rolls(places, None)
        for value in NO_THREES:
            self.refused(InvalidThree, "given", value, places, FOUR, value)
            self.refused(InvalidThree, "given", value, places, roll=FOUR, three=value)
        self.refused(InvalidThree, "given", "abd", places, HILLS, "abd")
        self.refused(InvalidThree, "given", "abc", places, Roll(("abd",)), "abc")


class WheelInTest(Case):
    def right(self, roll, three):
        found = wheel_in(roll, three)
        self.assertEqual(wheel_in(three=three, roll=roll), found)
        if found is None:
            self.assertFalse(has_wheel(roll.orders, three))
        else:
            self.assertIs(found.__class__, tuple)
            self.assertEqual(list(found), sorted(found))
            self.assertEqual([order for order in found if order not in roll.orders], [])
            self.assertTrue(are_a_wheel(found, three))
        return found

    def test_all_rolls_of_three_things(self):
        wheels = [self.right(roll, "abc") for roll in all_rolls("abc")]
        self.assertEqual(len([each for each in wheels if each is None]), 63 - 15)

    def test_both_wheels_upon_three_things(self):
        for orders in (("abc", "bca", "cab"), ("acb", "bac", "cba")):
            self.assertEqual(wheel_in(Roll(orders), "abc"), orders)
            for left in orders:
                self.assertIs(wheel_in(Roll(orders).without(left), "abc"), None)

    def test_rolls_of_more_things(self):
        for roll in MIXED:
            for three in threes_in(roll.things):
                self.right(roll, three)

    def test_wheels_hidden_in_orders_of_six_things(self):
        for three in threes_in("abcdef"):
            others = "".join(sorted(set("abcdef") - set(three)))
            for first in permutations(three):
                a, b, c = first
                orders = (a + others + b + c, b + c + others + a, others[::-1] + c + a + b)
                self.assertEqual(self.right(Roll(tuple(sorted(orders))), three), tuple(sorted(orders)))

    def test_rolls_of_48_orders(self):
        for orders in (SIX[:48], SIX[-48:], SIX[::15]):
            for three in threes_in("abcdef"):
                self.right(Roll(orders), three)

    def test_none_if_and_only_if_there_is_a_place(self):
        for roll in MIXED:
            for three in threes_in(roll.things):
                self.assertIs(wheel_in(roll, three) is None, len(places(roll, three)) > 0)

    def test_wrong_values(self):
        self.refuses_no_rolls(wheel_in, "abc")
        self.refuses_no_rolls(wheel_in, None)
        for value in NO_THREES:
            self.refused(InvalidThree, "given", value, wheel_in, FOUR, value)
            self.refused(InvalidThree, "given", value, wheel_in, roll=FOUR, three=value)
        self.refused(InvalidThree, "given", "abd", wheel_in, WHEEL, "abd")


class CalmTest(Case):
    def right(self, roll):
        told = calm(roll.orders)
        self.assertIs(is_calm(roll), told)
        self.assertIs(is_calm(roll=roll), told)
        found = rough(roll)
        self.assertEqual(rough(roll=roll), found)
        if told:
            self.assertIs(found, None)
            return
        self.assertIs(found.__class__, tuple)
        three, orders = found
        self.assertIn(three, threes(roll))
        self.assertIs(orders.__class__, tuple)
        self.assertEqual(list(orders), sorted(orders))
        self.assertEqual([order for order in orders if order not in roll.orders], [])
        self.assertTrue(are_a_wheel(orders, three))
        self.assertNotEqual(rounds(list(orders)), [])

    def test_all_rolls_of_three_things(self):
        rolls = all_rolls("abc")
        self.assertEqual(len(rolls), 63)
        for roll in rolls:
            self.right(roll)
        self.assertEqual(len([roll for roll in rolls if is_calm(roll)]), 48)
        self.assertEqual(max(len(roll) for roll in rolls if is_calm(roll)), 4)

    def test_no_crowd_over_a_calm_roll_goes_round(self):
        for roll in all_rolls("abc"):
            if is_calm(roll):
                for numbers in all_numbers(len(roll), 5):
                    self.assertEqual(rounds(people_of(roll.orders, numbers)), [])
        for numbers in all_numbers(len(FOUR), 3):
            self.assertEqual(rounds(people_of(FOUR.orders, numbers)), [])

    def test_exactly_if_each_three_have_a_place(self):
        for roll in [*all_rolls("abc"), *MIXED, FOUR, *[FOUR.more(order) for order in orders_of("abcd") if order not in FOUR]]:
            told = all(len(places(roll, three)) > 0 for three in threes(roll))
            self.assertIs(is_calm(roll), told)
            self.right(roll)

    def test_one_order_and_two(self):
        for things in ("abc", "abcd", "vwxyz", "abcdef"):
            orders = orders_of(things)
            for order in orders[1::13]:
                self.right(Roll((order,)))
                self.assertTrue(is_calm(Roll((order,))))
                self.assertTrue(is_calm(Roll((orders[0], order))))

    def test_parts_of_calm_rolls(self):
        for many in range(1, 9):
            for orders in combinations(FOUR.orders, many):
                self.assertIs(is_calm(Roll(orders)), True)
                self.assertIs(rough(Roll(orders)), None)

    def test_wheels_hidden_in_orders_of_six_things(self):
        for three in threes_in("abcdef"):
            for turned in (0, 1):
                a, b, c = three if turned == 0 else three[::-1]
                # The other things stand between these three as they do in abcdef.
                told = [dict(zip(three, each)) for each in (a + b + c, b + c + a, c + a + b)]
                orders = ["".join(each.get(thing, thing) for thing in "abcdef") for each in told]
                roll = Roll(tuple(sorted(orders)))
                self.right(roll)
                self.assertFalse(is_calm(roll))
                for order in orders:
                    self.assertTrue(is_calm(roll.without(order)))

    def test_rolls_of_48_orders(self):
        for orders in (SIX[:48], SIX[-48:], SIX[::15], orders_of("abcde", 48)):
            self.right(Roll(orders))
            self.assertFalse(is_calm(Roll(orders)))

    def test_no_roll(self):
        self.refuses_no_rolls(is_calm)
        self.refuses_no_rolls(rough)


class ExamplesTest(Case):
    def test_of_the_document(self):
        self.assertEqual(
            [threes(FOUR), upon("dcba", "abd"), places(HILLS, "abc"), places(WHEEL, "abc"), wheel_in(WHEEL, "abc"),
             is_calm(FOUR), rough(HILLS), rough(WHEEL)],
            [("abc", "abd", "acd", "bcd"), "dba", (("b", "last"),), (), ("abc", "bca", "cab"), True, None,
             ("abc", ("abc", "bca", "cab"))])
        self.assertEqual(
            [places(FOUR, "abd"), places(Roll(("abc",)), "abc")],
            [(("b", "last"),), (("a", "last"), ("a", "middle"), ("b", "first"), ("b", "last"), ("c", "first"),
                                ("c", "middle"))])


if __name__ == "__main__":
    unittest.main()
