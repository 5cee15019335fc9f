import unittest

from calmlists.errors import InvalidOrder, InvalidOrders, InvalidText, TooFew, TooMany, UnknownOrder
from calmlists.rolls import Roll
from support import NO_ORDER_STRINGS, NO_ORDERS, NO_STRINGS, Case, nested, orders_of

HILLS = ("abc", "bac", "bca", "cba")
FIVE = orders_of("abcde")
SIX = orders_of("abcdef")
ROLLS = (
    ("abc",), ("cba",), HILLS, ("abc", "bca", "cab"), orders_of("abc"), orders_of("abcd"), orders_of("wxyz"),
    ("azm", "maz", "zma"), ("dbca",), FIVE[:1], FIVE[:47], FIVE[:48], FIVE[72:], SIX[-1:], SIX[:48], SIX[-48:],
    SIX[::15], ("abcdef", "fedcba"),
)


class MakingTest(Case):
    def test_orders_by_position_and_by_name(self):
        for orders in ROLLS:
            with self.subTest(orders=orders):
                self.assertEqual(Roll(orders).orders, orders)
                self.assertEqual(Roll(orders=orders).orders, orders)
                self.assertIs(Roll(orders).orders.__class__, tuple)

    def test_things(self):
        self.assertEqual(Roll(("abc",)).things, "abc")
        self.assertEqual(Roll(("cba",)).things, "abc")
        self.assertEqual(Roll(("dbca",)).things, "abcd")
        self.assertEqual(Roll(("azm", "maz", "zma")).things, "amz")
        self.assertEqual(Roll(FIVE[72:]).things, "abcde")
        self.assertEqual(Roll(SIX[-1:]).things, "abcdef")
        self.assertEqual(Roll(orders_of("uvwxyz", 48)).things, "uvwxyz")

    def test_length(self):
        for orders in ROLLS:
            with self.subTest(orders=orders):
                self.assertEqual(len(Roll(orders)), len(orders))
        self.assertEqual(len(Roll(FIVE[:48])), 48)
        self.assertEqual(len(Roll(("abc",))), 1)

    def test_text(self):
        self.assertEqual(str(Roll(("abc",))), "abc")
        self.assertEqual(str(Roll(HILLS)), "abc\nbac\nbca\ncba")
        self.assertEqual(str(Roll(("abcdef", "fedcba"))), "abcdef\nfedcba")
        self.assertEqual(str(Roll(SIX[:48])).split("\n"), list(SIX[:48]))

    def test_true(self):
        for orders in ROLLS:
            self.assertIs(bool(Roll(orders)), True)

    def test_never_changes(self):
        roll = Roll(HILLS)
        with self.assertRaises(AttributeError):
            roll.orders = ("abc",)
        with self.assertRaises(AttributeError):
            roll.things = "abcd"
        self.assertEqual((roll.orders, roll.things), (HILLS, "abc"))

    def test_in(self):
        for orders in ROLLS:
            roll = Roll(orders)
            for order in orders:
                self.assertIs(order in roll, True)
        roll = Roll(HILLS)
        for order in ("acb", "cab", "abcd", "abd", "xyz"):
            self.assertIs(order in roll, False)
            self.assertIs(order not in roll, True)

    def test_in_takes_any_value(self):
        roll = Roll(HILLS)
        for value in [*NO_ORDERS, HILLS, roll, str(roll)]:
            self.assertIs(value in roll, False)


class EqualityTest(Case):
    def both(self, one, other, equal):
        for left, right in ((one, other), (other, one)):
            self.assertIs(left == right, equal)
            self.assertIs(left != right, not equal)

    def test_equal_rolls(self):
        for orders in ROLLS:
            with self.subTest(orders=orders):
                self.both(Roll(orders), Roll(tuple(list(orders))), True)
                self.both(Roll(orders), Roll.read("\n".join(orders)), True)
        roll = Roll(HILLS)
        self.both(roll, roll, True)

    def test_other_rolls(self):
        rolls = [Roll(orders) for orders in ROLLS]
        for at, one in enumerate(rolls):
            for other in rolls[:at]:
                self.both(one, other, False)
        self.both(Roll(("abc", "bca")), Roll(("abc", "cba")), False)
        self.both(Roll(("abc",)), Roll(("abd",)), False)

    def test_values_of_other_classes(self):
        roll = Roll(("abc",))
        others = [each for each in NO_ORDERS if not isinstance(each, Roll)]
        for value in [*others, "abc", ("abc",), ["abc"]]:
            self.assertIs(roll == value, False)
            self.assertIs(roll != value, True)
        for value in ["abc", ("abc",), ["abc"], None, True, 1, b"abc"]:
            self.both(roll, value, False)

    def test_within_other_values(self):
        self.assertTrue((Roll(HILLS), 1) == (Roll(HILLS), 1))
        self.assertTrue([Roll(HILLS)] != [Roll(("abc",))])
        self.assertTrue(Roll(HILLS) in (None, "abc", Roll(HILLS)))
        self.assertFalse(Roll(HILLS) in (None, "abc", HILLS, str(Roll(HILLS))))


class RefusedOrdersTest(Case):
    def wrong(self, orders, index):
        with self.subTest(orders=repr(orders)[:80]):
            self.refused(InvalidOrders, "index", index, Roll, orders)
            self.refused(InvalidOrders, "index", index, Roll, orders=orders)

    def test_no_tuple(self):
        for value in NO_ORDERS:
            if not isinstance(value, tuple):
                self.wrong(value, None)
        for value in (["abc", "bca"], [None], "abc", "abc\nbca", {"abc": "bca"}, Roll(HILLS)):
            self.wrong(value, None)

    def test_empty_tuple(self):
        self.wrong((), None)

    def test_first_is_no_order(self):
        for value in NO_ORDERS:
            self.wrong((value,), 0)
            self.wrong((value, "abc"), 0)
            self.wrong((value, value), 0)

    def test_later_one_is_no_order(self):
        for value in NO_ORDERS:
            self.wrong(("abc", value), 1)
            self.wrong(("abc", value, "bca"), 1)
            self.wrong(("abc", "bca", value), 2)
            self.wrong((*FIVE[:47], value), 47)

    def test_other_things_than_the_first(self):
        self.wrong(("abc", "abd"), 1)
        self.wrong(("abc", "abcd"), 1)
        self.wrong(("abcd", "bcd"), 1)
        self.wrong(("abc", "bcd"), 1)
        self.wrong(("abc", "xyz"), 1)
        self.wrong(("abc", "bca", "cad"), 2)
        self.wrong(("abc", "acb", "bacd", "bca"), 2)
        self.wrong((*FIVE[:47], "zbcde"), 47)

    def test_does_not_ascend(self):
        self.wrong(("bca", "abc"), 1)
        self.wrong(("abc", "cab", "bca"), 2)
        self.wrong(("abc", "cab", "abc"), 2)
        self.wrong(("abc", "bac", "bca", "acb", "cba"), 3)
        self.wrong((*FIVE[:46], FIVE[47], FIVE[46]), 47)

    def test_the_same_order_twice(self):
        self.wrong(("abc", "abc"), 1)
        self.wrong(("abc", "bca", "bca", "cab"), 2)
        self.wrong((*FIVE[:47], FIVE[46]), 47)

    def test_the_first_one_that_is_wrong_counts(self):
        self.wrong(("abc", None, "abd"), 1)
        self.wrong(("abc", "abd", None), 1)
        self.wrong(("bca", "abc", None), 1)
        self.wrong(("abc", None, "abc"), 1)
        self.wrong((None, "abc", "abc"), 0)
        self.wrong(("cab", "abc", "abd", None), 1)

    def test_one_too_many(self):
        for orders in (FIVE, SIX):
            self.wrong(orders[:49], 48)
            self.wrong(orders[:50], 48)
            self.wrong(orders, 48)
        self.wrong((*FIVE[:48], FIVE[0]), 48)
        for value in NO_ORDERS:
            self.wrong((*FIVE[:48], value), 48)
            self.wrong((*FIVE[:49], value), 48)

    def test_an_earlier_wrong_one_comes_before_one_too_many(self):
        self.wrong((None, *FIVE[:48]), 0)
        self.wrong((*FIVE[:47], None, FIVE[48]), 47)
        self.wrong((*FIVE[:20], "abcd", *FIVE[20:60]), 20)
        self.wrong((*FIVE[:30], *FIVE[29:60]), 30)
        self.wrong(("abc",) * 100, 1)

    def test_what_is_passed_stays(self):
        orders, inner = ["abc", "bca"], ["abc"]
        self.refused(InvalidOrders, "index", None, Roll, orders)
        self.refused(InvalidOrders, "index", 1, Roll, ("abc", inner))
        self.assertEqual((orders, inner), (["abc", "bca"], ["abc"]))


class ReadTest(Case):
    def test_texts_of_rolls(self):
        for orders in ROLLS:
            with self.subTest(orders=orders):
                text = "\n".join(orders)
                self.assertEqual(Roll.read(text).orders, orders)
                self.assertEqual(Roll.read(text=text), Roll(orders))
                self.assertEqual(str(Roll.read(text)), text)
                self.assertIs(Roll.read(text).__class__, Roll)

    def test_asked_of_a_roll(self):
        roll = Roll(HILLS)
        self.assertEqual(roll.read("abcd\nbcda").orders, ("abcd", "bcda"))
        self.assertEqual(roll.orders, HILLS)

    def wrong(self, value):
        with self.subTest(value=repr(value)[:80]):
            self.refused(InvalidText, "given", value, Roll.read, value)
            self.refused(InvalidText, "given", value, Roll.read, text=value)

    def test_no_string(self):
        for value in [*NO_STRINGS, HILLS, list(HILLS), Roll(HILLS), nested(10)]:
            self.wrong(value)

    def test_string_that_is_no_text_of_a_roll(self):
        for value in NO_ORDER_STRINGS:
            # This one is in the list since it is no order, but it is the text of a roll.
            if value != "abc\nbca":
                self.wrong(value)

    def test_newline_too_many(self):
        for value in ("\n", "\n\n", "\nabc", "abc\n", "\nabc\nbca", "abc\nbca\n", "abc\n\nbca", "abc\nbca\n\ncab"):
            self.wrong(value)

    def test_blanks_and_other_signs_in_between(self):
        for value in (" ", "abc bca", "abc \nbca", "abc\n bca", "abc\nbca ", " abc\nbca", "abc\n \nbca", "abc,bca", "abcbca"):
            self.wrong(value)

    def test_wrong_orders(self):
        for value in ("bca\nabc", "abc\nabc", "abc\ncab\nbca", "abc\nabd", "abc\nabcd", "ab\nba", "abc\nBca", "abc\nb1a"):
            self.wrong(value)

    def test_too_many_orders(self):
        for many in (49, 50, 120):
            self.wrong("\n".join(FIVE[:many]))
        self.wrong("\n".join(SIX[:49]))
        self.wrong("\n".join(FIVE[:48]) + "\n")


class MoreTest(Case):
    def test_one_order_more(self):
        for orders in (orders_of("abc"), orders_of("abcd"), FIVE[:48], SIX[::15]):
            for order in orders:
                fewer = tuple([each for each in orders if each != order])
                roll = Roll(fewer)
                self.assertEqual(roll.more(order).orders, orders)
                self.assertEqual(roll.more(order=order), Roll(orders))
                self.assertEqual(roll.orders, fewer)

    def test_at_the_front_in_between_and_at_the_end(self):
        roll = Roll(("acb", "bca"))
        self.assertEqual(roll.more("abc").orders, ("abc", "acb", "bca"))
        self.assertEqual(roll.more("bac").orders, ("acb", "bac", "bca"))
        self.assertEqual(roll.more("cba").orders, ("acb", "bca", "cba"))
        self.assertEqual(roll, Roll(("acb", "bca")))

    def test_no_order_of_the_things(self):
        for roll in (Roll(HILLS), Roll(FIVE[:47]), Roll(FIVE[:48])):
            for value in [*NO_ORDERS, "abd", "xyz", "abcd", "bcde", "abcdf", "abcdef", HILLS]:
                self.refused(InvalidOrder, "given", value, roll.more, value)
                self.refused(InvalidOrder, "given", value, roll.more, order=value)

    def test_an_order_that_is_there(self):
        for orders in (("abc",), HILLS, orders_of("abc"), FIVE[:48]):
            roll = Roll(orders)
            for order in orders:
                self.refused(InvalidOrder, "given", order, roll.more, order)
                self.refused(InvalidOrder, "given", order, roll.more, order=order)
            self.assertEqual(roll.orders, orders)

    def test_too_many_comes_last(self):
        for orders in (FIVE, SIX):
            roll = Roll(orders[:48])
            for order in orders[48:]:
                self.refused(TooMany, "given", 49, roll.more, order)
                self.refused(TooMany, "given", 49, roll.more, order=order)
            self.refused(InvalidOrder, "given", orders[0], roll.more, orders[0])
            self.refused(InvalidOrder, "given", "abc", roll.more, "abc")
            self.refused(InvalidOrder, "given", None, roll.more, None)
            self.assertEqual(roll.orders, orders[:48])
        self.assertEqual(len(Roll(FIVE[:47]).more(FIVE[100])), 48)


class WithoutTest(Case):
    def test_one_order_less(self):
        for orders in (("abc", "cba"), orders_of("abc"), orders_of("abcd"), FIVE[:48], SIX[::15]):
            roll = Roll(orders)
            for order in orders:
                fewer = tuple([each for each in orders if each != order])
                self.assertEqual(roll.without(order).orders, fewer)
                self.assertEqual(roll.without(order=order), Roll(fewer))
            self.assertEqual(roll.orders, orders)

    def test_no_order_of_the_things(self):
        for roll in (Roll(HILLS), Roll(("abc",)), Roll(("cba",))):
            for value in [*NO_ORDERS, "abd", "xyz", "abcd", "ab", HILLS]:
                self.refused(InvalidOrder, "given", value, roll.without, value)
                self.refused(InvalidOrder, "given", value, roll.without, order=value)

    def test_another_order(self):
        roll = Roll(HILLS)
        for order in ("acb", "cab"):
            self.refused(UnknownOrder, "given", order, roll.without, order)
            self.refused(UnknownOrder, "given", order, roll.without, order=order)
        self.assertEqual(roll.orders, HILLS)

    def test_too_few_comes_last(self):
        for order in ("abc", "dcba", FIVE[7], SIX[-1]):
            roll = Roll((order,))
            self.refused(TooFew, "given", 0, roll.without, order)
            self.refused(TooFew, "given", 0, roll.without, order=order)
            other = order[::-1]
            self.refused(UnknownOrder, "given", other, roll.without, other)
            self.refused(InvalidOrder, "given", "ab", roll.without, "ab")
            self.assertEqual(roll.orders, (order,))

    def test_more_and_without_take_each_other_back(self):
        roll = Roll(HILLS)
        self.assertEqual(roll.more("cab").without("cab"), roll)
        self.assertEqual(roll.without("bac").more("bac"), roll)


class ExamplesTest(Case):
    def test_of_the_document(self):
        hills = Roll(("abc", "bac", "bca", "cba"))
        wheel = Roll.read("abc\nbca\ncab")
        more = hills.more("cab") == Roll(("abc", "bac", "bca", "cab", "cba"))
        self.assertEqual(
            [hills.things, len(wheel), "cab" in wheel, "cab" in hills, str(wheel.without("bca")), more],
            ["abc", 3, True, False, "abc\ncab", True])
        with self.assertRaises(InvalidOrders) as held:
            Roll(("abc", "abd"))
        self.assertEqual(held.exception.index, 1)


if __name__ == "__main__":
    unittest.main()
