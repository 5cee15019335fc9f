"""The promises over the whole program, for drawn rolls and crowds."""

import random
import unittest

from calmlists.certificates import certify, certify_closed, certify_crowd, certify_full, certify_spoken
from calmlists.checker import accepts
from calmlists.crowds import Crowd
from calmlists.desks import Desk
from calmlists.dropping import least_out
from calmlists.most import hull, is_closed, is_spoken
from calmlists.rolls import Roll
from calmlists.rows import person, row
from calmlists.threes import is_calm, rough
from calmlists.widening import full, is_full, wider
from desk_case import DeskCase
from samples import (
    CALM, CHANGES, FOUR, HILLS, LARGE, PARTS, ROUGH, ROWS, SOME, SQUARE, as_roll, changed, drawn_rolls, kept_calm,
    parts_of,
)
from support import all_rolls, orders_of

GREAT = 10 ** 90
IN_ROWS = [as_roll(orders) for orders in ROWS]
DRAWN = [
    *all_rolls("abc"), *drawn_rolls("abcd", 40, 1, 10), *drawn_rolls("abcde", 20, 1, 8), *drawn_rolls("uvwxyz", 12, 1, 6),
    *parts_of(kept_calm("abcdef", 9), 10), *CALM, *ROUGH, *IN_ROWS,
]
CALM_ONES = [roll for roll in DRAWN if is_calm(roll)]


def drawn_crowds(roll, many, seed):
    """Crowds over a roll, of few people and of very many."""
    chosen = random.Random(seed)
    found = []
    for at in range(many):
        most = (1, 3, 1000, GREAT)[at % 4]
        numbers = [chosen.choice((0, 1, chosen.randint(0, most))) for _ in roll.orders]
        numbers[chosen.randrange(len(numbers))] += 1
        found.append(Crowd(roll, tuple(numbers)))
    return found


def odd(crowds):
    return [crowd for crowd in crowds if crowd.people % 2 == 1]


class CrowdsTest(DeskCase):
    def test_no_crowd_over_a_calm_roll_has_a_round(self):
        for roll in CALM_ONES:
            for crowd in drawn_crowds(roll, 8, 1):
                self.assertIs(crowd.some_round(), None)
                if crowd.people % 2 == 1:
                    self.assertIsNotNone(crowd.order())

    def test_some_crowd_over_a_rough_roll_has_a_round(self):
        for roll in DRAWN:
            if not is_calm(roll):
                three, orders = rough(roll)
                for many in (1, GREAT):
                    crowd = Crowd(roll, tuple(many if order in orders else 0 for order in roll.orders))
                    self.assertEqual("".join(sorted(crowd.some_round())), three)
                    self.assertIs(crowd.order(), None)

    def test_over_a_closed_roll_the_order_of_the_most_is_in_it(self):
        for roll in CALM_ONES:
            if is_closed(roll):
                for crowd in odd(drawn_crowds(roll, 12, 2)):
                    self.assertIn(crowd.order(), roll)

    def test_over_a_spoken_roll_it_is_the_order_of_somebody(self):
        for roll in CALM_ONES:
            if is_spoken(roll):
                for crowd in odd(drawn_crowds(roll, 12, 3)):
                    number = crowd.numbers[roll.orders.index(crowd.order())]
                    self.assertGreater(number, 0)

    def test_over_a_roll_in_a_row_it_is_that_of_the_person_in_the_middle(self):
        for roll in CALM_ONES:
            for crowd in drawn_crowds(roll, 6, 4):
                if row(roll) is not None and crowd.people % 2 == 1:
                    self.assertEqual(person(crowd), crowd.order())
                else:
                    self.assertIs(person(crowd), None)

    def test_over_a_closed_roll_some_order_goes_against_no_majority(self):
        for roll in CALM_ONES:
            if is_closed(roll):
                for crowd in drawn_crowds(roll, 12, 5):
                    found = crowd.agreeing()
                    self.assertGreater(len(found), 0)
                    if crowd.people % 2 == 1:
                        self.assertEqual(found, (crowd.order(),))

    def test_over_other_rolls_there_need_not_be_one(self):
        self.assertEqual(Crowd(SOME, (1, 1, 1)).agreeing(), ())
        self.assertNotIn(Crowd(SOME, (1, 1, 1)).order(), SOME)


class RollsTest(DeskCase):
    def test_a_row_is_spoken_and_a_spoken_roll_closed_and_a_closed_one_calm(self):
        for roll in DRAWN:
            told = [row(roll) is not None, is_spoken(roll), is_closed(roll), is_calm(roll)]
            self.assertEqual(told, sorted(told))
            if is_full(roll):
                self.assertTrue(is_closed(roll))
        for told, roll in (([True] * 4, HILLS), ([False] + [True] * 3, SQUARE), ([False, False, True, True], FOUR)):
            self.assertEqual([row(roll) is not None, is_spoken(roll), is_closed(roll), is_calm(roll)], told)

    def test_hulls_are_calm_and_closed(self):
        for roll in CALM_ONES:
            found = hull(roll)
            self.assertTrue(is_calm(found))
            self.assertTrue(is_closed(found))
            self.assertEqual([order for order in roll.orders if order not in found], [])
            self.assertEqual(hull(found), found)
            # Each full roll that holds the roll is closed, so it holds the hull.
            whole = full(roll)
            self.assertEqual([order for order in found.orders if order not in whole], [])
            for crowd in odd(drawn_crowds(roll, 4, 6)):
                self.assertIn(crowd.order(), found)

    def test_no_order_can_be_put_into_full_rolls(self):
        for roll in CALM_ONES[::4]:
            found = full(roll)
            for order in orders_of(found.things)[::13]:
                if order not in found:
                    self.assertFalse(is_calm(found.more(order)))

    def test_parts_of_calm_rolls_are_calm(self):
        for roll in LARGE:
            for part in parts_of(roll, 20):
                self.assertTrue(is_calm(part))

    def test_fewest_orders_left_out(self):
        for roll in [each for each in DRAWN if len(each) <= 12][::3]:
            for out in least_out(roll):
                left = tuple(order for order in roll.orders if order not in out)
                self.assertTrue(is_calm(Roll(left)))
                for order in out:
                    self.assertFalse(is_calm(Roll(tuple(sorted([*left, order])))))


class ChangesTest(DeskCase):
    def test_other_letters_and_all_orders_turned_round(self):
        for roll in DRAWN[::2]:
            for change in CHANGES:
                other = changed(roll, change)
                for call in (is_calm, is_closed, is_spoken):
                    self.assertIs(call(other), call(roll))
                self.assertIs(row(other) is None, row(roll) is None)
                if is_calm(roll):
                    self.assertEqual(hull(other), changed(hull(roll), change))

    def test_crowds(self):
        for roll in DRAWN[::5]:
            for crowd in drawn_crowds(roll, 2, 7):
                for change in CHANGES:
                    other = changed(roll, change)
                    numbers = {change(order): number for order, number in zip(roll.orders, crowd.numbers)}
                    there = Crowd(other, tuple(numbers[order] for order in other.orders))
                    self.assertEqual(there.people, crowd.people)
                    self.assertIs(there.some_round() is None, crowd.some_round() is None)
                    self.assertEqual(there.order(), crowd.order() and change(crowd.order()))
                    self.assertEqual(there.agreeing(), tuple(sorted(change(order) for order in crowd.agreeing())))
                    self.assertEqual(person(there), person(crowd) and change(person(crowd)))


class DesksTest(DeskCase):
    def test_after_each_change_all_promises_hold(self):
        chosen = random.Random(17)
        for roll in CALM_ONES[::9]:
            desk = Desk(roll)
            desk.promise(("calm",))
            if is_closed(roll):
                desk.promise(("closed",))
            for order in chosen.sample(orders_of(roll.things), 6):
                told = order in wider(desk.roll)
                try:
                    desk.put(order)
                except (ValueError, ArithmeticError):
                    self.assertTrue(not told or len(desk.promises) == 2)
                else:
                    self.assertTrue(told)
                for wish in desk.promises:
                    # It could be promised once more.
                    desk.promise(wish)
                    desk.undo()
                self.assertTrue(is_calm(desk.roll))
                self.assertTrue(len(desk.promises) == 1 or is_closed(desk.roll))


class CertificatesTest(DeskCase):
    def test_all_certificates_are_accepted(self):
        for roll in DRAWN:
            for call in (certify, certify_closed, certify_spoken):
                self.assertIs(accepts(*call(roll)), True)
            for crowd in drawn_crowds(roll, 3, 8):
                found = certify_crowd(crowd)
                if found is None:
                    self.assertIs(crowd.order(), None)
                    self.assertIs(crowd.some_round(), None)
                else:
                    self.assertIs(accepts(*found), True)
        for roll in CALM_ONES[::25]:
            self.assertIs(accepts(*certify_full(full(roll))), True)

    def test_what_is_accepted_is_true(self):
        for roll in [*PARTS[::4], *DRAWN[::5]]:
            text = str(roll)
            pairs = (certify(roll), certify_closed(roll), certify_spoken(roll))
            words = {"calm": is_calm, "closed": is_closed, "spoken": is_spoken, "full": is_full}
            for _, certificate in pairs:
                for word, call in words.items():
                    if accepts((word, text), certificate):
                        self.assertTrue(call(roll))
                for word, call in (("rough", is_calm), ("open", is_closed), ("unspoken", is_spoken)):
                    if accepts((word, text), certificate):
                        self.assertFalse(call(roll))


if __name__ == "__main__":
    unittest.main()
