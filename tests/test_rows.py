import random
import unittest
from itertools import combinations, permutations

from calmlists.crowds import Crowd
from calmlists.errors import InvalidOrder, NotACrowd, UnknownOrder
from calmlists.most import is_spoken
from calmlists.rolls import Roll
from calmlists.rows import between, is_row, person, row, unlike
from samples import (
    CALM, CHANGES, EVERY, FEW, FIVE_THERE, FOUR, HILLS, LARGE, NO_CROWDS, PARTS, ROUGH, ROWS, SIX, SOME, SQUARE,
    THREE_THERE, WHEEL, as_roll, changed, drawn_rolls,
)
from support import NO_ORDERS, Case, all_numbers, all_rolls, most, nested, orders_of, people_of

GREAT = 10 ** 80


def pairs_unlike(one, other):
    """The pairs of things of which two orders say otherwise which one is above."""
    pairs = combinations(sorted(one), 2)
    return [(a, b) for a, b in pairs if (one.index(a) < one.index(b)) != (other.index(a) < other.index(b))]


def once(orders):
    """Whether along a row of orders no two things change more than once which one is above."""
    steps = [pair for one, other in zip(orders, orders[1:]) for pair in pairs_unlike(one, other)]
    return len(steps) == len(set(steps))


def once_all(roll, values):
    """Whether a tuple of any values is one of all orders of a roll along which no two things change twice."""
    strings = [value for value in values if isinstance(value, str)]
    return len(strings) == len(values) and sorted(strings) == list(roll.orders) and once(strings)


def rows_of(orders):
    """All rows of some orders, one by one."""
    return [each for each in permutations(orders) if once(each)]


SMALL = [*all_rolls("abc")[:56], SOME, SQUARE, *[part for part in PARTS if len(part) < 6], *drawn_rolls("abcd", 20, 1, 5)]


class UnlikeTest(Case):
    def test_the_number_of_pairs(self):
        for things in ("abc", "abcd", "kqtz"):
            for one in orders_of(things):
                for other in orders_of(things):
                    self.assertEqual(unlike(one, other), len(pairs_unlike(one, other)))
        chosen = random.Random(1)
        for _ in range(300):
            things = chosen.choice(("abcde", "abcdef", "hmtxyz"))
            one, other = chosen.choice(orders_of(things)), chosen.choice(orders_of(things))
            self.assertEqual(unlike(one, other), len(pairs_unlike(one, other)))
            self.assertEqual(unlike(other=other, one=one), unlike(other, one))

    def test_none_and_all(self):
        for things in ("abc", "zkm", "abcd", "edcba", "abcdef", "fbdace"):
            self.assertEqual(unlike(things, things), 0)
            self.assertEqual(unlike(things, things[::-1]), len(things) * (len(things) - 1) // 2)
        self.assertEqual(unlike("abc", "acb"), 1)
        self.assertEqual(unlike("abc", "cab"), 2)

    def test_no_orders(self):
        for value in NO_ORDERS:
            for other in ("abc", "abd", None, value):
                self.refused(InvalidOrder, "given", value, unlike, value, other)
            self.refused(InvalidOrder, "given", value, unlike, "abc", value)
            self.refused(InvalidOrder, "given", value, unlike, other=value, one="bca")
            self.refused(InvalidOrder, "given", value, unlike, other="abc", one=value)

    def test_other_things(self):
        for one, other in (("abc", "abd"), ("abc", "abcd"), ("abcd", "abc"), ("abcdef", "abcdeg"), ("abc", "xyz")):
            self.refused(InvalidOrder, "given", other, unlike, one, other)
            self.refused(InvalidOrder, "given", one, unlike, other, one)


class RowTest(Case):
    def stands(self, roll):
        found = row(roll)
        self.assertIs(found.__class__, tuple)
        self.assertEqual(sorted(found), list(roll.orders))
        self.assertTrue(once(found))
        self.assertEqual(row(roll=roll), found)
        self.assertIs(is_row(roll, found), True)
        self.assertTrue(is_spoken(roll))

    def test_all_small_rolls(self):
        for roll in SMALL:
            if rows_of(roll.orders):
                self.stands(roll)
            else:
                self.assertIs(row(roll), None)
                self.assertIs(row(roll=roll), None)

    def test_long_rows(self):
        for orders in ROWS:
            self.stands(as_roll(orders))
        self.assertEqual(max(len(orders) for orders in ROWS), 16)

    def test_one_order_more_that_does_not_fit(self):
        chosen = random.Random(4)
        for orders in [each for each in ROWS if len(each) in (2, 3, 4, 5)]:
            others = [order for order in orders_of(sorted(orders[0])) if order not in orders]
            for order in chosen.sample(others, min(8, len(others))):
                roll = as_roll((*orders, order))
                if rows_of(roll.orders):
                    self.stands(roll)
                else:
                    self.assertIs(row(roll), None)

    def test_rolls_that_stand_in_no_row(self):
        none = [FOUR, SQUARE, SOME, EVERY, WHEEL, *LARGE, *ROUGH, Roll(SIX[:48]), Roll(orders_of("abcd"))]
        for roll in none:
            self.assertIs(row(roll), None)

    def test_one_order_and_two(self):
        for orders in (("abc",), ("fedcba",), ("abc", "cba"), ("abcd", "badc"), (SIX[100], SIX[500])):
            self.stands(Roll(orders))

    def test_no_roll(self):
        self.refuses_no_rolls(row)


class IsRowTest(Case):
    def told(self, roll, orders, told):
        with self.subTest(roll=str(roll), orders=repr(orders)[:80]):
            self.assertIs(is_row(roll, orders), told)
            self.assertIs(is_row(orders=orders, roll=roll), told)

    def test_just_the_rows(self):
        for roll in SMALL:
            for orders in permutations(roll.orders):
                self.told(roll, orders, once(orders))

    def test_rows_turned_round(self):
        for orders in ROWS:
            self.told(as_roll(orders), orders, True)
            self.told(as_roll(orders), orders[::-1], True)

    def test_rows_bent_at_one_place(self):
        for orders in [each for each in ROWS if len(each) > 2]:
            roll = as_roll(orders)
            self.told(roll, list(orders), False)
            other = [order for order in orders_of(roll.things) if order not in roll][0]
            for at in range(len(orders)):
                self.told(roll, orders[:at] + orders[at + 1:], False)
                self.told(roll, orders[:at] + (orders[at],) + orders[at:], False)
                self.told(roll, orders[:at] + (orders[at - 1],) + orders[at + 1:], False)
                self.told(roll, orders[:at] + (other,) + orders[at + 1:], False)
                self.told(roll, orders[:at] + (other,) + orders[at:], False)
                for value in (None, "", orders[at].upper(), (orders[at],), [orders[at]], nested(8)):
                    self.told(roll, orders[:at] + (value,) + orders[at + 1:], False)
                for after in range(at + 1, len(orders)):
                    swapped = list(orders)
                    swapped[at], swapped[after] = orders[after], orders[at]
                    self.told(roll, tuple(swapped), once(swapped))

    def test_any_value(self):
        for roll in (HILLS, Roll(("abc",)), SQUARE, WHEEL, Roll(SIX[:48])):
            values = [*NO_ORDERS, roll, str(roll), *roll.orders, list(roll.orders), roll.orders + ("",), (), ((),)]
            for value in values:
                self.told(roll, value, isinstance(value, tuple) and once_all(roll, value))
                self.told(roll, (value,), once_all(roll, (value,)))
                self.told(roll, (*roll.orders[:-1], value), once_all(roll, (*roll.orders[:-1], value)))
            self.told(roll, roll.orders * 2, False)
        self.told(Roll(("abc",)), ("abc",), True)

    def test_orders_of_another_roll(self):
        self.told(HILLS, row(FEW), False)
        self.told(FEW, row(HILLS), False)
        self.told(HILLS, ("abd", "bad", "bda", "dba"), False)
        self.told(HILLS, ("abcd", "bacd", "bcad", "cbad"), False)

    def test_no_roll(self):
        for orders in (None, (), ("abc",), HILLS.orders, HILLS):
            self.refuses_no_rolls(is_row, orders)


class BetweenTest(Case):
    def told(self, roll, one, other):
        apart = pairs_unlike(one, other)
        orders = [each for each in roll.orders if not set(pairs_unlike(each, one)) & set(pairs_unlike(each, other))]
        found = between(roll, one, other)
        self.assertIs(found.__class__, tuple)
        self.assertEqual(found, tuple(orders))
        self.assertEqual(between(other=other, roll=roll, one=one), found)
        self.assertEqual(between(roll, other, one), found)
        for each in found:
            # What both say, each order between them says, too.
            self.assertLessEqual(set(pairs_unlike(each, one)), set(apart))

    def test_all_pairs(self):
        for roll in [*SMALL, FOUR, EVERY, WHEEL, LARGE[0]]:
            for one in roll.orders:
                for other in roll.orders:
                    self.told(roll, one, other)

    def test_greater_rolls(self):
        for roll in (Roll(SIX[:48]), LARGE[2], Roll(SIX[::15]), as_roll(ROWS[-2])):
            for one in roll.orders[::9]:
                for other in roll.orders[::5]:
                    self.told(roll, one, other)

    def test_the_same_one_twice(self):
        for roll in (HILLS, FOUR, LARGE[2], Roll(SIX[:48])):
            for order in roll.orders:
                self.assertEqual(between(roll, order, order), (order,))

    def test_the_whole_row(self):
        for orders in ROWS:
            self.assertEqual(between(as_roll(orders), orders[0], orders[-1]), tuple(sorted(orders)))

    def test_no_roll(self):
        self.refuses_no_rolls(between, "abc", "bca")
        self.refuses_no_rolls(between, None, None)

    def test_no_orders(self):
        for value in [*NO_ORDERS, "abd", "abcd", "xyz"]:
            for other in ("abc", "acb", None, "x"):
                self.refused(InvalidOrder, "given", value, between, HILLS, value, other)
                self.refused(InvalidOrder, "given", value, between, roll=HILLS, one=value, other=other)
            self.refused(InvalidOrder, "given", value, between, HILLS, "bca", value)
            self.refused(InvalidOrder, "given", value, between, roll=HILLS, other=value, one="cba")

    def test_orders_that_are_not_in_the_roll(self):
        for value in ("acb", "cab"):
            for other in ("abc", "acb", "abd", None):
                self.refused(UnknownOrder, "given", value, between, HILLS, value, other)
                self.refused(UnknownOrder, "given", value, between, one=value, other=other, roll=HILLS)
            self.refused(UnknownOrder, "given", value, between, HILLS, "abc", value)


class PersonTest(Case):
    def told(self, orders, numbers):
        """The numbers belong to the orders as they stand in their row."""
        roll = as_roll(orders)
        crowd = Crowd(roll, tuple(numbers[orders.index(order)] for order in roll.orders))
        found = person(crowd)
        self.assertEqual(person(crowd=crowd), found)
        people = sum(numbers)
        if people % 2 == 0:
            self.assertIs(found, None)
        else:
            behind = [sum(numbers[:at + 1]) for at in range(len(numbers))]
            self.assertEqual(found, [order for order, many in zip(orders, behind) if many > people // 2][0])
            self.assertEqual(found, crowd.order())

    def test_small_crowds(self):
        for orders in (("abc", "bac", "bca", "cba"), ("acb", "abc"), ("bca",), ("abcd", "bacd", "bcda"), ("zyx", "xyz")):
            for numbers in all_numbers(len(orders), 6):
                self.told(orders, numbers)
                roll = as_roll(orders)
                if sum(numbers) % 2 == 1:
                    self.assertEqual(person(Crowd(roll, numbers)), most(people_of(roll.orders, numbers)))

    def test_great_numbers(self):
        chosen = random.Random(3)
        for orders in ROWS:
            for _ in range(6):
                numbers = [chosen.choice((0, 1, 2, 3, GREAT, GREAT + 1, 3 * GREAT)) for _ in orders]
                numbers[chosen.randrange(len(numbers))] += 1
                self.told(orders, numbers)

    def test_one_person_more_than_half(self):
        self.told(("abc", "bac", "bca", "cba"), (GREAT, 1, GREAT, 0))
        self.told(("abc", "bac", "bca", "cba"), (GREAT, 0, 1, GREAT))
        self.told(("abc", "bac", "bca", "cba"), (GREAT + 1, 0, 0, GREAT))
        self.told(("abc", "bac", "bca", "cba"), (GREAT, 0, 0, GREAT + 1))
        self.told(("abc", "bac", "bca", "cba"), (GREAT, 0, 0, GREAT))

    def test_even_crowds(self):
        for roll in (HILLS, FEW, Roll(("abc",)), SQUARE, WHEEL):
            for numbers in all_numbers(len(roll), 4):
                if sum(numbers) % 2 == 0:
                    self.assertIs(person(Crowd(roll, numbers)), None)

    def test_rolls_that_stand_in_no_row(self):
        # Also if these people alone stand in one, and if there is an order of the most.
        for roll in (SQUARE, WHEEL, FOUR, SOME, EVERY, Roll(SIX[:48])):
            for at in range(len(roll)):
                for many in (1, 3, 4, GREAT + 1):
                    numbers = (0,) * at + (many,) + (0,) * (len(roll) - at - 1)
                    self.assertIs(person(Crowd(roll, numbers)), None)

    def test_no_crowd(self):
        for value in NO_CROWDS:
            self.refused(NotACrowd, "given", value, person, value)
            self.refused(NotACrowd, "given", value, person, crowd=value)


class ChangesTest(Case):
    def test_what_is_told_is_changed_likewise(self):
        for roll in [*SMALL, *[as_roll(orders) for orders in ROWS], *CALM[::9], *ROUGH[::9]]:
            for change in CHANGES:
                other, found = changed(roll, change), row(roll)
                if found is None:
                    self.assertIs(row(other), None)
                else:
                    self.assertIs(is_row(other, tuple(change(order) for order in found)), True)
                    self.assertIs(is_row(other, row(other)), True)
                ends = roll.orders[0], roll.orders[-1]
                self.assertEqual(unlike(*ends), unlike(change(ends[0]), change(ends[1])))
                told = between(other, change(ends[0]), change(ends[1]))
                self.assertEqual(told, tuple(sorted(change(order) for order in between(roll, *ends))))

    def test_asked_again(self):
        for orders in ROWS:
            roll = as_roll(orders)
            before, first = roll.orders, row(roll)
            self.assertEqual(row(roll), first)
            self.assertEqual(row(Roll(before)), first)
            self.assertIs(roll.orders, before)
            crowd = Crowd(roll, (1,) * len(roll))
            self.assertEqual(person(crowd), person(Crowd(Roll(before), (1,) * len(roll))))


class ExamplesTest(Case):
    def test_of_the_document(self):
        self.assertEqual(
            [unlike("abcd", "badc"), row(HILLS) in (("abc", "bac", "bca", "cba"), ("cba", "bca", "bac", "abc")),
             row(SQUARE), is_spoken(SQUARE), row(FOUR), between(HILLS, "abc", "bca"), between(SQUARE, "abcd", "badc")],
            [2, True, None, True, None, ("abc", "bac", "bca"), ("abcd", "abdc", "bacd", "badc")])
        self.assertEqual(
            [is_row(HILLS, ("abc", "bca", "bac", "cba")), is_row(FEW, ("cba", "bca", "abc")), person(FIVE_THERE),
             person(THREE_THERE), person(Crowd(HILLS, (1, 0, 0, 1)))],
            [False, True, "bca", None, None])


if __name__ == "__main__":
    unittest.main()
