import random
import unittest
from itertools import combinations

from calmlists.dropping import least_out
from calmlists.errors import TooMany
from calmlists.rolls import Roll
from calmlists.threes import is_calm
from samples import CALM, CHANGES, EVERY, FOUR, HILLS, LARGE, SIX, SOME, SQUARE, WHEEL, changed, drawn_rolls, parts_of
from support import Case, all_rolls, calm, orders_of

# Parts of the orders of four things that lie in both wheels upon each three of them.
DRAWN = [*drawn_rolls("abcd", 20, 1, 9), *drawn_rolls("kmtz", 10, 3, 8), *drawn_rolls("abcde", 12, 3, 8)]
GREATER = [roll for things in ("abcd", "abcde", "abcdef") for roll in drawn_rolls(things, 5, 10, 12)]


def left_out(roll, many, judge):
    """All so many orders without which a roll is calm."""
    orders = roll.orders
    outs = list(combinations(orders, many))
    return tuple(out for out in outs if judge(tuple(order for order in orders if order not in out)))


def told_least(roll, judge):
    for many in range(len(roll)):
        found = left_out(roll, many, judge)
        if found:
            return found
    return None


def calm_orders(orders):
    return is_calm(Roll(orders))


class LeastOutTest(Case):
    def told(self, roll, outs):
        found = least_out(roll)
        self.assertIs(found.__class__, tuple)
        self.assertEqual(found, outs)
        self.assertEqual(list(found), sorted(set(found)))
        for out in found:
            self.assertIs(out.__class__, tuple)
            self.assertEqual(list(out), sorted(set(out)))
        self.assertEqual(least_out(roll=roll), found)

    def test_by_the_definition(self):
        for roll in [*all_rolls("abc"), *drawn_rolls("abcd", 12, 1, 6)]:
            self.told(roll, told_least(roll, calm))

    def test_all_as_few_as_can_be(self):
        for roll in [*DRAWN, SOME, SQUARE, FOUR]:
            self.told(roll, told_least(roll, calm_orders))

    def test_up_to_twelve_orders(self):
        for roll in GREATER:
            found = least_out(roll)
            many = len(found[0])
            self.assertEqual(left_out(roll, many - 1, calm_orders), ())
            self.assertEqual(found, left_out(roll, many, calm_orders))
        self.assertIn(12, [len(roll) for roll in GREATER])

    def test_calm_rolls(self):
        for roll in CALM:
            if len(roll) <= 12:
                self.told(roll, ((),))

    def test_one_order_and_two(self):
        for orders in (("abc",), ("fedcba",), ("abc", "cba"), (SIX[100], SIX[500])):
            self.told(Roll(orders), ((),))

    def test_both_wheels(self):
        one, other = ("abc", "bca", "cab"), ("acb", "bac", "cba")
        self.told(EVERY, tuple(sorted(tuple(sorted((a, b))) for a in one for b in other)))
        for order in orders_of("abc"):
            self.told(EVERY.without(order), tuple((each,) for each in (other if order in one else one)))

    def test_twelve_and_thirteen(self):
        orders = orders_of("abcdef")
        twelve = Roll(orders[::60])
        self.assertEqual(len(twelve), 12)
        self.assertEqual(least_out(twelve), told_least(twelve, calm_orders))
        # In these twelve orders, and in these thirteen, a stands ahead of b, and b ahead of c.
        self.assertEqual(len(least_out(Roll(SIX[:12]))[0]), len(told_least(Roll(SIX[:12]), calm_orders)[0]))
        calm_ones = [Roll(LARGE[2].orders[:many]) for many in (13, 14, 20)]
        for roll in calm_ones:
            self.assertTrue(is_calm(roll))
        for roll in [*calm_ones, LARGE[0], Roll(SIX[:13]), Roll(orders_of("abcd")[:13]), Roll(orders_of("abcd"))]:
            self.many(roll)
        self.many(Roll(SIX[-48:]))
        self.told(Roll(LARGE[2].orders[:12]), ((),))

    def many(self, roll):
        for call in (lambda: least_out(roll), lambda: least_out(roll=roll)):
            with self.assertRaises(TooMany) as held:
                call()
            self.assertIs(held.exception.__class__, TooMany)
            self.assertEqual(held.exception.given, len(roll))

    def test_no_roll(self):
        self.refuses_no_rolls(least_out)

    def test_what_is_told_is_changed_likewise(self):
        for roll in [*all_rolls("abc"), *DRAWN[::3], *GREATER[::5], FOUR, WHEEL]:
            for change in CHANGES:
                outs = [tuple(sorted(change(order) for order in out)) for out in least_out(roll)]
                self.assertEqual(least_out(changed(roll, change)), tuple(sorted(outs)))

    def test_asked_again(self):
        chosen = random.Random(6)
        for roll in [WHEEL, EVERY, HILLS, *DRAWN, *parts_of(Roll(orders_of("abcd")), 3)]:
            orders = tuple(sorted(chosen.sample(roll.orders, min(len(roll), 9))))
            part = Roll(orders)
            first = least_out(part)
            self.assertEqual(least_out(part), first)
            self.assertEqual(least_out(Roll.read("\n".join(orders))), first)
            self.assertIs(part.orders, orders)


class ExamplesTest(Case):
    def test_of_the_document(self):
        self.assertEqual(
            [least_out(WHEEL), least_out(HILLS), len(least_out(EVERY)), least_out(EVERY)[0]],
            [(("abc",), ("bca",), ("cab",)), ((),), 9, ("abc", "acb")])


if __name__ == "__main__":
    unittest.main()
