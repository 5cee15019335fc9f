import random
import unittest
from itertools import combinations, permutations
from unittest.mock import ANY

from calmlists.crowds import Crowd
from calmlists.errors import InvalidNumber, InvalidOrder, InvalidPeople, UnknownOrder, UnknownThing
from calmlists.rolls import Roll
from samples import EVERY, FOUR, HILLS, WHEEL
from support import (
    NO_ORDERS, NO_ROLLS, NO_STRINGS, NO_THINGS, Case, Shy, all_numbers, beaten, most, nested, orders_of, people_of,
    rounds,
)

# Over this roll there are rounds of four things without one of three: a and c, b and d are tied.
ROUND_OF_FOUR = Crowd(Roll(("abcd", "bcda", "cdab", "dabc")), (1, 1, 1, 1))
FIVE = Roll(orders_of("abcde", 48))
SIX = Roll(orders_of("abcdef")[::15])
GREAT = 10 ** 90
NO_NUMBERS = [
    None, True, False, -1, -2, -GREAT, "", "1", "a", b"1", (), (1,), nested(8), [], [1], {}, {1: 1}, {1}, object(), Shy(),
    ANY, int, len, HILLS, Crowd(HILLS, (1, 0, 0, 0)),
]


def some_crowds():
    """Crowds over rolls of three to six things, odd and even ones, the same ones each time."""
    chosen = random.Random(9)
    found = [ROUND_OF_FOUR]
    for things in ("abc", "abcd", "mqtz", "abcde", "abcdef"):
        for _ in range(14):
            many = chosen.randint(1, 6)
            orders = tuple(sorted(chosen.sample(orders_of(things), many)))
            numbers = [chosen.choice((0, 1, 1, 2, 3, 5)) for _ in orders]
            numbers[chosen.randrange(many)] += 1
            found.append(Crowd(Roll(orders), tuple(numbers)))
    return found


SMALL = [Crowd(EVERY, numbers) for numbers in all_numbers(6, 3)] + [Crowd(HILLS, numbers) for numbers in all_numbers(4, 4)]
CROWDS = SMALL + some_crowds()


def all_of(crowd):
    return people_of(crowd.roll.orders, crowd.numbers)


class MakingTest(Case):
    def test_by_position_and_by_name(self):
        for roll, numbers in ((HILLS, (2, 0, 1, 2)), (WHEEL, (0, 0, 1)), (FIVE, tuple(range(48))), (Roll(("cba",)), (7,))):
            for crowd in (Crowd(roll, numbers), Crowd(roll=roll, numbers=numbers), Crowd(numbers=numbers, roll=roll)):
                self.assertEqual(crowd.roll, roll)
                self.assertEqual(crowd.numbers, numbers)
                self.assertIs(crowd.numbers.__class__, tuple)
                self.assertEqual(crowd.people, sum(numbers))
                self.assertIs(bool(crowd), True)

    def test_great_numbers(self):
        crowd = Crowd(WHEEL, (GREAT, GREAT + 1, 0))
        self.assertEqual(crowd.numbers, (GREAT, GREAT + 1, 0))
        self.assertEqual(crowd.people, 2 * GREAT + 1)

    def test_never_changes(self):
        crowd = Crowd(HILLS, (2, 0, 1, 2))
        for name in ("roll", "numbers", "people"):
            with self.assertRaises(AttributeError):
                setattr(crowd, name, 1)
        crowd.joined("abc", 5)
        self.assertEqual((crowd.roll, crowd.numbers, crowd.people), (HILLS, (2, 0, 1, 2), 5))


class EqualityTest(Case):
    def both(self, one, other, equal):
        for left, right in ((one, other), (other, one)):
            self.assertIs(left == right, equal)
            self.assertIs(left != right, not equal)

    def test_equal_crowds(self):
        for crowd in CROWDS:
            self.both(crowd, crowd, True)
            self.both(crowd, Crowd(Roll(crowd.roll.orders), tuple(list(crowd.numbers))), True)
        self.both(Crowd(HILLS, (GREAT, 0, 0, 1)), Crowd(HILLS, (10 ** 90, 0, 0, 1)), True)

    def test_other_crowds(self):
        crowd = Crowd(HILLS, (1, 2, 0, 0))
        for numbers in ((2, 1, 0, 0), (1, 2, 0, 1), (1, 2, 1, 0), (2, 4, 0, 0), (1, 0, 2, 0)):
            self.both(crowd, Crowd(HILLS, numbers), False)
        for orders in (("abc", "acb", "bca", "cba"), ("abd", "bad", "bda", "dba"), FOUR.orders[:4]):
            self.both(crowd, Crowd(Roll(orders), (1, 2, 0, 0)), False)
        # The same people, but other rolls.
        self.both(Crowd(HILLS, (1, 1, 0, 0)), Crowd(Roll(("abc", "bac")), (1, 1)), False)
        self.both(Crowd(HILLS, (GREAT, 0, 0, 1)), Crowd(HILLS, (GREAT + 1, 0, 0, 1)), False)

    def test_values_of_other_classes(self):
        crowd = Crowd(HILLS, (2, 0, 1, 2))
        for value in [*NO_STRINGS, HILLS, (2, 0, 1, 2), (HILLS, (2, 0, 1, 2)), str(HILLS), 5]:
            self.assertIs(crowd == value, False)
            self.assertIs(crowd != value, True)
        for value in (None, True, 5, "abc", b"abc", (2, 0, 1, 2), [crowd], HILLS):
            self.both(crowd, value, False)
        self.assertTrue((crowd, 1) == (Crowd(HILLS, (2, 0, 1, 2)), 1))
        self.assertTrue(crowd in (None, HILLS, Crowd(HILLS, (2, 0, 1, 2))))


class RefusedTest(Case):
    def wrong(self, roll, numbers, index):
        with self.subTest(numbers=repr(numbers)[:80]):
            self.refused(InvalidPeople, "index", index, Crowd, roll, numbers)
            self.refused(InvalidPeople, "index", index, Crowd, roll=roll, numbers=numbers)

    def test_no_roll_comes_first(self):
        self.refuses_no_rolls(Crowd, (1,))
        self.refuses_no_rolls(Crowd, None)
        self.refuses_no_rolls(Crowd, (0, True))
        self.assertGreater(len(NO_ROLLS), 50)

    def test_no_tuple(self):
        for value in [*NO_ORDERS, [1, 1, 1], {0: 1}, 3, range(3), "111", HILLS, Crowd(HILLS, (1, 0, 0, 0))]:
            if not isinstance(value, tuple):
                self.wrong(WHEEL, value, None)

    def test_no_number(self):
        for value in NO_NUMBERS:
            self.wrong(WHEEL, (value, 1, 1), 0)
            self.wrong(WHEEL, (1, value, 1), 1)
            self.wrong(WHEEL, (1, 1, value), 2)
            self.wrong(WHEEL, (value,), 0)
            self.wrong(WHEEL, (1, value), 1)
            self.wrong(Roll(("abc",)), (value,), 0)
            self.wrong(FIVE, (*[0] * 47, value), 47)

    def test_the_first_one_that_is_wrong_counts(self):
        self.wrong(WHEEL, (1, None, -1), 1)
        self.wrong(WHEEL, (-1, True, 1), 0)
        self.wrong(WHEEL, (1, -1, 1, 1), 1)
        self.wrong(WHEEL, (0, 0, False), 2)
        self.wrong(WHEEL, (False, False, False), 0)
        self.wrong(WHEEL, (None, 0, 0, 0, 0), 0)

    def test_one_too_many(self):
        for value in [*NO_NUMBERS, 0, 1, GREAT]:
            self.wrong(WHEEL, (1, 1, 1, value), 3)
            self.wrong(WHEEL, (0, 0, 0, value), 3)
            self.wrong(WHEEL, (0, 1, 0, 1, value), 3)
        self.wrong(FIVE, (1,) * 49, 48)
        self.wrong(Roll(("abc",)), (1, 1), 1)

    def test_too_few(self):
        self.wrong(WHEEL, (), 0)
        self.wrong(WHEEL, (1,), 1)
        self.wrong(WHEEL, (1, 1), 2)
        self.wrong(WHEEL, (0,), 1)
        self.wrong(WHEEL, (0, 0), 2)
        self.wrong(FIVE, (1,) * 47, 47)
        self.wrong(Roll(("abc",)), (), 0)

    def test_nobody(self):
        self.wrong(WHEEL, (0, 0, 0), None)
        self.wrong(FIVE, (0,) * 48, None)
        self.wrong(Roll(("abc",)), (0,), None)


class PairsTest(Case):
    def test_above_and_beats(self):
        for crowd in CROWDS:
            people = all_of(crowd)
            for thing, other in permutations(crowd.roll.things, 2):
                above = len([order for order in people if order.index(thing) < order.index(other)])
                self.assertEqual(crowd.above(thing, other), above)
                self.assertEqual(crowd.above(other=other, thing=thing), above)
                self.assertIs(crowd.beats(thing, other), beaten(people, thing, other))
                self.assertIs(crowd.beats(other=other, thing=thing), beaten(people, thing, other))

    def test_the_same_thing(self):
        for crowd in (*CROWDS[:40], Crowd(FIVE, (1,) * 48), Crowd(WHEEL, (GREAT, 0, 0))):
            for thing in crowd.roll.things:
                self.assertEqual(crowd.above(thing, thing), 0)
                self.assertIs(crowd.beats(thing, thing), False)

    def test_great_numbers(self):
        crowd = Crowd(WHEEL, (GREAT, GREAT + 1, 0))
        self.assertEqual((crowd.above("a", "b"), crowd.above("b", "a")), (GREAT, GREAT + 1))
        self.assertEqual((crowd.beats("a", "b"), crowd.beats("b", "a")), (False, True))
        self.assertEqual((crowd.above("b", "c"), crowd.above("c", "b")), (2 * GREAT + 1, 0))
        even = Crowd(WHEEL, (GREAT, GREAT, 0))
        self.assertEqual((even.beats("a", "b"), even.beats("b", "a"), even.ties()), (False, False, (("a", "b"), ("a", "c"))))

    def test_unknown_things(self):
        crowd = Crowd(FOUR, (1, 0, 0, 0, 2, 0, 0, 0))
        for call in (crowd.above, crowd.beats):
            for value in NO_THINGS:
                self.refused(UnknownThing, "given", value, call, value, "a")
                self.refused(UnknownThing, "given", value, call, "a", value)
                self.refused(UnknownThing, "given", value, call, thing=value, other="a")
                self.refused(UnknownThing, "given", value, call, other=value, thing="a")
                self.refused(UnknownThing, "given", value, call, value, value)
                # The first of two wrong ones.
                self.refused(UnknownThing, "given", value, call, value, "zz")
                self.refused(UnknownThing, "given", "zz", call, "zz", value)
                self.refused(UnknownThing, "given", "zz", call, other=value, thing="zz")
        for call in (Crowd(WHEEL, (1, 1, 1)).above, Crowd(WHEEL, (1, 1, 1)).beats):
            self.refused(UnknownThing, "given", "d", call, "d", "a")
            self.refused(UnknownThing, "given", "d", call, "a", "d")


class TellingTest(Case):
    def test_ties(self):
        for crowd in CROWDS:
            people = all_of(crowd)
            pairs = combinations(crowd.roll.things, 2)
            told = tuple([(a, b) for a, b in pairs if not beaten(people, a, b) and not beaten(people, b, a)])
            self.assertEqual(crowd.ties(), told)
            self.assertIs(crowd.ties().__class__, tuple)
            if crowd.people % 2 == 1:
                self.assertEqual(told, ())
        self.assertEqual(ROUND_OF_FOUR.ties(), (("a", "c"), ("b", "d")))

    def test_winner(self):
        for crowd in CROWDS:
            people, things = all_of(crowd), crowd.roll.things
            told = [thing for thing in things if all(beaten(people, thing, other) for other in things if other != thing)]
            self.assertEqual(crowd.winner(), told[0] if told else None)
        self.assertIs(Crowd(WHEEL, (1, 1, 1)).winner(), None)
        self.assertEqual(Crowd(WHEEL, (1, 1, 0)).winner(), None)
        self.assertEqual(Crowd(WHEEL, (0, 5, 4)).winner(), "b")

    def test_winner_above_a_round(self):
        crowd = Crowd(Roll(("dabc", "dbca", "dcab")), (1, 1, 1))
        self.assertEqual(crowd.winner(), "d")
        self.assertEqual(sorted(crowd.some_round()), ["a", "b", "c"])
        self.assertIs(crowd.order(), None)

    def test_some_round(self):
        for crowd in CROWDS:
            found = crowd.some_round()
            told = rounds(all_of(crowd))
            if found is None:
                self.assertEqual(told, [])
            else:
                self.assertIn(found, told)
            self.assertEqual(crowd.some_round(), found)

    def test_round_of_four_things_without_one_of_three(self):
        self.assertIn(ROUND_OF_FOUR.some_round(), ("abcd", "bcda", "cdab", "dabc"))
        self.assertIs(ROUND_OF_FOUR.order(), None)

    def test_round_of_all_of_five_and_six_things_alone(self):
        for things in ("abcde", "abcdef"):
            turned = [things[at:] + things[:at] for at in range(len(things))]
            # Each two people that are put in say otherwise of all pairs but one, the first two things of `order`.
            people = []
            for order in turned:
                people += [order, order[::-1][:-2] + order[:2]]
            roll = Roll(tuple(sorted(set(people))))
            crowd = Crowd(roll, tuple([people.count(order) for order in roll.orders]))
            self.assertEqual({"".join(sorted(each)) for each in rounds(people)}, {things})
            self.assertIn(crowd.some_round(), turned)
            self.assertIs(crowd.order(), None)

    def test_order(self):
        for crowd in CROWDS:
            self.assertEqual(crowd.order(), most(all_of(crowd)))
            if crowd.people % 2 == 1:
                self.assertIs(crowd.order() is None, crowd.some_round() is not None)
            elif crowd.order() is not None:
                self.assertEqual((crowd.ties(), crowd.some_round()), ((), None))
        self.assertEqual(Crowd(HILLS, (2, 0, 0, 0)).order(), "abc")
        self.assertEqual(Crowd(WHEEL, (3, 1, 0)).order(), "abc")
        self.assertIs(Crowd(HILLS, (1, 0, 0, 1)).order(), None)

    def test_order_of_one_person(self):
        for roll in (HILLS, WHEEL, FOUR, SIX):
            for at, order in enumerate(roll.orders):
                numbers = (*[0] * at, 1, *[0] * (len(roll) - at - 1))
                crowd = Crowd(roll, numbers)
                self.assertEqual((crowd.order(), crowd.winner(), crowd.agreeing()), (order, order[0], (order,)))
                self.assertEqual((crowd.some_round(), crowd.ties()), (None, ()))

    def test_agreeing(self):
        for crowd in CROWDS:
            people = all_of(crowd)
            told = [order for order in crowd.roll.orders if not any(beaten(people, b, a) for a, b in combinations(order, 2))]
            self.assertEqual(crowd.agreeing(), tuple(told))
            self.assertIs(crowd.agreeing().__class__, tuple)
        # All are tied, so nothing is beaten.
        self.assertEqual(Crowd(HILLS, (1, 0, 0, 1)).agreeing(), HILLS.orders)
        self.assertEqual(Crowd(HILLS, (1, 1, 0, 0)).agreeing(), ("abc", "bac"))

    def test_agreeing_over_a_closed_roll_is_never_empty(self):
        for roll, many in ((HILLS, 6), (FOUR, 4)):
            for numbers in all_numbers(len(roll), many):
                self.assertNotEqual(Crowd(roll, numbers).agreeing(), ())

    def test_great_numbers(self):
        for more, order in (((0, 0, 0), None), ((1, 0, 1), None), ((GREAT + 1, 0, 0), "abc"), ((0, GREAT * 2, 0), "bca")):
            crowd = Crowd(WHEEL, tuple([GREAT + each for each in more]))
            self.assertEqual(crowd.order(), order)
            self.assertEqual(crowd.agreeing(), () if order is None else (order,))
            self.assertEqual(crowd.winner(), None if order is None else order[0])
            self.assertIs(crowd.some_round() is None, order is not None)
        even = Crowd(WHEEL, (GREAT, 0, GREAT - 1)).joined("cab", 1)
        self.assertEqual(even.ties(), (("a", "c"), ("b", "c")))
        self.assertEqual(even.agreeing(), ("abc", "cab"))

    def test_48_orders(self):
        crowd = Crowd(FIVE, tuple([at * at % 7 for at in range(48)]))
        people = all_of(crowd)
        self.assertEqual(crowd.order(), most(people))
        self.assertEqual(crowd.above("b", "e"), len([order for order in people if order.index("b") < order.index("e")]))
        self.assertIs(Crowd(SIX, (1,) * 48).some_round() is None, rounds(list(SIX.orders)) == [])


class JoinedTest(Case):
    def test_more_and_fewer(self):
        numbers = (2, 0, 1, 2)
        for at, order in enumerate(HILLS.orders):
            for many in (*range(-numbers[at], 4), GREAT):
                crowd = Crowd(HILLS, numbers)
                told = (*numbers[:at], numbers[at] + many, *numbers[at + 1:])
                for found in (crowd.joined(order, many), crowd.joined(order=order, many=many)):
                    self.assertIs(found.__class__, Crowd)
                    self.assertEqual((found.roll, found.numbers, found.people), (HILLS, told, 5 + many))
                self.assertEqual((crowd.roll, crowd.numbers, crowd.people), (HILLS, numbers, 5))

    def test_back_again(self):
        for crowd in CROWDS[-40:]:
            for order in crowd.roll.orders:
                self.assertEqual(crowd.joined(order, 3).joined(order, -3), crowd)
                self.assertEqual(crowd.joined(order, 0), crowd)
                self.assertEqual(crowd.joined(order, GREAT).joined(order, -GREAT), crowd)

    def test_no_order(self):
        crowd = Crowd(HILLS, (2, 0, 1, 2))
        for value in [*NO_ORDERS, "abd", "abcd", "xyz", HILLS]:
            for many in (1, -1, None, True, -99):
                self.refused(InvalidOrder, "given", value, crowd.joined, value, many)
            self.refused(InvalidOrder, "given", value, crowd.joined, many=1, order=value)

    def test_unknown_order(self):
        crowd = Crowd(HILLS, (2, 0, 1, 2))
        for value in ("acb", "cab"):
            for many in (1, 0, -1, None, True, -99):
                self.refused(UnknownOrder, "given", value, crowd.joined, value, many)
            self.refused(UnknownOrder, "given", value, crowd.joined, many=1, order=value)

    def test_no_integer(self):
        crowd = Crowd(HILLS, (2, 0, 1, 2))
        for value in NO_NUMBERS:
            if value.__class__ is not int:
                self.refused(InvalidNumber, "given", value, crowd.joined, "abc", value)
                self.refused(InvalidNumber, "given", value, crowd.joined, order="abc", many=value)
        self.assertEqual(crowd.numbers, (2, 0, 1, 2))

    def test_fewer_than_nobody(self):
        crowd = Crowd(HILLS, (2, 0, 1, GREAT))
        for order, many in (("abc", -3), ("bac", -1), ("bca", -2), ("cba", -GREAT - 1), ("abc", -GREAT), ("bca", -GREAT)):
            self.refused(InvalidNumber, "given", many, crowd.joined, order, many)
            self.refused(InvalidNumber, "given", many, crowd.joined, many=many, order=order)
        self.assertEqual(crowd.joined("abc", -2).numbers, (0, 0, 1, GREAT))
        self.assertEqual(crowd.joined("cba", -GREAT).numbers, (2, 0, 1, 0))

    def test_nobody_at_all(self):
        for roll, numbers, order in ((HILLS, (0, 0, 3, 0), "bca"), (Roll(("abc",)), (3,), "abc"), (WHEEL, (3, 0, 0), "abc")):
            crowd, many = Crowd(roll, numbers), -3
            self.refused(InvalidNumber, "given", many, crowd.joined, order, many)
            self.assertEqual(crowd.joined(order, -2).people, 1)
        crowd, many = Crowd(HILLS, (0, 0, 3, 0)), -3
        # Nobody would be left, but fewer than nobody with this order, too.
        self.refused(InvalidNumber, "given", many, crowd.joined, "abc", many)


class ExamplesTest(Case):
    def test_of_the_document(self):
        three_there, five_there = Crowd(WHEEL, (1, 1, 1)), Crowd(HILLS, (2, 0, 1, 2))
        self.assertEqual(
            [three_there.people, three_there.above("a", "b"), three_there.beats("c", "a"),
             sorted(three_there.some_round()), three_there.order(), three_there.winner(), three_there.agreeing()],
            [3, 2, True, ["a", "b", "c"], None, None, ()])
        self.assertEqual(
            [five_there.order(), five_there.winner(), five_there.some_round(), five_there.agreeing(),
             five_there.joined("cba", -2).order(), Crowd(HILLS, (1, 0, 0, 1)).ties()],
            ["bca", "b", None, ("bca",), "abc", (("a", "b"), ("a", "c"), ("b", "c"))])
        self.refused(InvalidPeople, "index", 2, Crowd, HILLS, (1, 0, -1, 2))


if __name__ == "__main__":
    unittest.main()
