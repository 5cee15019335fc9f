import random
import unittest
from itertools import combinations, product
from unittest.mock import ANY

from calmlists.checker import accepts
from calmlists.crowds import Crowd
from calmlists.most import is_closed, is_spoken, open_three, unspoken_three
from calmlists.rolls import Roll
from calmlists.threes import places, rough, threes
from calmlists.widening import full
from claims import all_open, all_places, all_unspoken, all_wheels, bends, claim_of, is_right
from samples import CALM, EVERY, FEW, FOUR, HILLS, LARGE, PARTS, ROUGH, SIX, SOME, SQUARE, WHEEL, drawn_rolls
from support import NO_ORDERS, NO_ROLLS, Case, all_numbers, most, nested, orders_of, people_of, rounds, threes_in

GREAT = 10 ** 90
OF_ROLLS = ("calm", "rough", "closed", "spoken", "open", "unspoken", "full")
SMALL = [
    HILLS, FEW, WHEEL, EVERY, SOME, SQUARE, Roll(("abc",)), Roll(("ykz", "zky")), Roll(("abcd", "bcad", "cabd")),
    Roll(("abcd", "bcda", "cbad", "dcba")), Roll(("bcad", "cabd", "dabc", "dcba")), *drawn_rolls("abcd", 4, 2, 5),
]


class CheckerCase(Case):
    def told(self, claim, certificate):
        """It is accepted exactly if it is right."""
        with self.subTest(claim=repr(claim)[:80], certificate=repr(certificate)[:80]):
            right = is_right(claim, certificate)
            self.assertIs(accepts(claim, certificate), right)
            self.assertIs(accepts(certificate=certificate, claim=claim), right)

    def bent(self, claim, certificate):
        """A right certificate is accepted, and those bent at one place only if they happen to be right."""
        self.assertIs(accepts(claim, certificate), True)
        self.assertTrue(is_right(claim, certificate))
        for other in bends(certificate):
            self.told(claim, other)

    def never(self, claim, certificate):
        self.assertIs(accepts(claim, certificate), False)
        self.assertIs(accepts(claim=claim, certificate=certificate), False)

    def bent_claims(self, claim, certificate):
        self.assertIs(accepts(claim, certificate), True)
        for other in bends(claim):
            self.told(other, certificate)


class CalmTest(CheckerCase):
    def test_each_certificate_of_three_things(self):
        for roll in [each for each in SMALL if len(each.things) == 3]:
            three = roll.things
            for pair in all_places(roll.orders, three):
                self.assertIs(accepts(claim_of("calm", roll), (pair,)), True)
            for thing in (*three, "d", "", three):
                for word in ("first", "middle", "last", "best", ""):
                    self.told(claim_of("calm", roll), ((thing, word),))

    def test_certificates_bent_at_one_place(self):
        for roll in (HILLS, FEW, SOME, SQUARE, FOUR, Roll(("ykz", "zky"))):
            certificate = tuple(all_places(roll.orders, three)[-1] for three in threes_in(roll.things))
            self.bent(claim_of("calm", roll), certificate)

    def test_the_threes_ascend(self):
        places_of_four = (("b", "last"), ("b", "last"), ("c", "last"), ("c", "last"))
        for order in set(product((("b", "last"), ("c", "last")), repeat=4)):
            self.assertIs(accepts(claim_of("calm", FOUR), order), order == places_of_four)

    def test_greater_rolls(self):
        for roll in LARGE:
            certificate = tuple(places(roll, three)[0] for three in threes(roll))
            self.assertIs(accepts(claim_of("calm", roll), certificate), True)
            for other in (certificate[::-1], certificate[1:], certificate + certificate[-1:], list(certificate), ()):
                self.never(claim_of("calm", roll), other)

    def test_no_certificate_for_rough_rolls(self):
        pairs = [(thing, word) for thing in "abc" for word in ("first", "middle", "last")]
        for roll in (WHEEL, EVERY):
            for pair in pairs:
                self.never(claim_of("calm", roll), (pair,))
        for roll in ROUGH:
            self.never(claim_of("calm", roll), ())
            self.never(claim_of("calm", roll), (("a", "last"),) * len(threes(roll)))


class RoughTest(CheckerCase):
    def test_each_certificate_and_bends(self):
        for roll in SMALL:
            for certificate in all_wheels(roll.orders)[:2]:
                self.bent(claim_of("rough", roll), certificate)

    def test_all_three_orders_and_three_things(self):
        for roll in SMALL:
            for three in threes_in(roll.things):
                for orders in combinations(roll.orders, 3):
                    self.told(claim_of("rough", roll), (three, orders))

    def test_greater_rolls(self):
        for roll in ROUGH:
            three, orders = rough(roll)
            self.assertIs(accepts(claim_of("rough", roll), (three, orders)), True)
            for other in ((three, orders[::-1]), (orders, three), (three, orders[:2]), (three, list(orders)), (three,)):
                self.never(claim_of("rough", roll), other)
            self.never(claim_of("rough", roll), (three[::-1], orders))

    def test_calm_rolls(self):
        for roll in CALM[::7]:
            for orders in list(combinations(roll.orders, 3))[:5]:
                self.never(claim_of("rough", roll), (threes_in(roll.things)[0], orders))
            self.never(claim_of("rough", roll), ("abc", ("abc", "bca", "cab")))
            self.never(claim_of("rough", roll), ())


class ClosedTest(CheckerCase):
    def test_closed_and_spoken(self):
        for word, told in (("closed", is_closed), ("spoken", is_spoken)):
            for roll in [*SMALL, *CALM, *ROUGH]:
                self.assertIs(accepts(claim_of(word, roll), ()), told(roll))

    def test_certificates_bent(self):
        for roll in [*SMALL, FOUR, LARGE[2]]:
            for word in ("closed", "spoken"):
                for other in (None, "", [], ((),), (None,), {}, 0, False, True, b"", ANY, *roll.orders, roll.orders):
                    self.never(claim_of(word, roll), other)

    def test_as_the_definition_says(self):
        for roll in SMALL:
            self.told(claim_of("closed", roll), ())
            self.told(claim_of("spoken", roll), ())

    def test_open_and_unspoken(self):
        for roll in SMALL:
            for word in ("open", "unspoken"):
                for orders in combinations(roll.orders, 3):
                    self.told(claim_of(word, roll), orders)
                self.told(claim_of(word, roll), ())

    def test_open_and_unspoken_bent(self):
        for roll in SMALL:
            for word, found in (("open", all_open(roll.orders)), ("unspoken", all_unspoken(roll.orders))):
                for certificate in found[:2]:
                    self.bent(claim_of(word, roll), certificate)
        # Closed, but not spoken: the order of the most is in the roll, but none of the three.
        roll = Roll(("abcd", "bcad", "bcda", "cbad"))
        self.assertIs(accepts(claim_of("unspoken", roll), ("abcd", "bcda", "cbad")), True)
        self.assertIs(accepts(claim_of("open", roll), ("abcd", "bcda", "cbad")), False)

    def test_greater_rolls(self):
        for roll in [*PARTS[100:], *LARGE, *ROUGH]:
            for word, call in (("open", open_three), ("unspoken", unspoken_three)):
                found = call(roll)
                if found is None:
                    self.never(claim_of(word, roll), roll.orders[:3])
                else:
                    self.assertIs(accepts(claim_of(word, roll), found), True)
                    self.never(claim_of(word, roll), found[::-1])
                    self.never(claim_of(word, roll), found[:2])
                    self.never(claim_of(word, roll), list(found))
                    self.never(claim_of(word, roll), (found[0], found[0], found[2]))


class FullTest(CheckerCase):
    def wheels(self, roll):
        """For each order that a full roll lacks the three things that go round with it."""
        lacked = [order for order in orders_of(roll.things) if order not in roll]
        return {order: [three for three, _ in all_wheels(roll.more(order).orders)] for order in lacked}

    def certificates(self, wheels):
        return [tuple((order, wheels[order][at]) for order in wheels) for at in (0, -1)]

    def test_full_rolls(self):
        for roll in (HILLS, full(FEW), full(Roll(("zyx",)))):
            for certificate in self.certificates(self.wheels(roll)):
                self.bent(claim_of("full", roll), certificate)

    def test_four_things(self):
        for roll in (FOUR, full(SQUARE), full(Roll(("kmtz",)))):
            claim, wheels = claim_of("full", roll), self.wheels(roll)
            for certificate in self.certificates(wheels):
                self.assertIs(accepts(claim, certificate), True)
                for other in (certificate[::-1], certificate[1:], certificate * 2, list(certificate), ()):
                    self.never(claim, other)
                for at, (order, three) in enumerate(certificate):
                    for each in (*threes_in(roll.things), three[::-1], "", "abe", order, None, (three,)):
                        other = (*certificate[:at], (order, each), *certificate[at + 1:])
                        self.assertIs(accepts(claim, other), each in wheels[order])
                    for each in (certificate[at - 1][0], roll.orders[0], "", None, "abce"):
                        self.never(claim, (*certificate[:at], (each, three), *certificate[at + 1:]))
                    for each in ((three, order), [order, three], (order,), (order, three, three), None):
                        self.never(claim, (*certificate[:at], each, *certificate[at + 1:]))

    def test_rolls_that_are_not_full(self):
        for roll in (FEW, SOME, SQUARE, Roll(("abc",)), HILLS.without("bac")):
            lacked = [order for order in orders_of(roll.things) if order not in roll]
            for three in threes_in(roll.things):
                self.never(claim_of("full", roll), tuple((order, three) for order in lacked))
            self.never(claim_of("full", roll), ())

    def test_rolls_that_are_not_calm(self):
        # Of each order that it lacks the roll has a wheel already, so it has one with it.
        for roll in (WHEEL, EVERY.without("abc"), EVERY, WHEEL.more("acb")):
            lacked = [order for order in orders_of("abc") if order not in roll]
            self.never(claim_of("full", roll), tuple((order, "abc") for order in lacked))
        lacked = [order for order in orders_of("abcd") if order not in ("abcd", "bcad", "cabd")]
        self.never(claim_of("full", Roll(("abcd", "bcad", "cabd"))), tuple((order, "abc") for order in lacked))
        self.never(claim_of("full", Roll(orders_of("abcd"))), ())


class CrowdTest(CheckerCase):
    def test_rounds(self):
        for roll in (WHEEL, HILLS, EVERY):
            for numbers in all_numbers(len(roll), 3):
                claim = claim_of("round", roll, numbers)
                for text in ("abc", "bca", "cab", "acb", "cba", "bac", "ab", "abca", "", "abd"):
                    self.told(claim, text)
                self.told(claim_of("order", roll, numbers, "abc"), ())

    def test_rounds_bent(self):
        crowds = [(WHEEL, (1, 1, 1)), (EVERY, (3, 0, 0, 2, 2, 0)), (Roll(("abcd", "bcda", "cdab", "dabc")), (1, 1, 1, 1))]
        for roll, numbers in crowds:
            for certificate in rounds(people_of(roll.orders, numbers))[:3]:
                self.bent(claim_of("round", roll, numbers), certificate)
            self.bent_claims(claim_of("round", roll, numbers), rounds(people_of(roll.orders, numbers))[0])

    def test_rounds_of_more_than_three(self):
        roll, numbers = Roll(("abcd", "bcda", "cdab", "dabc")), (1, 1, 1, 1)
        for text in ("abcd", "bcda", "cdab", "dabc"):
            self.assertIs(accepts(claim_of("round", roll, numbers), text), True)
        for text in ("dcba", "abc", "bcd", "acbd", "abcda", "abcdabcd", "abdc"):
            self.never(claim_of("round", roll, numbers), text)
        five = Roll(("abcde", "bcdea", "cdeab", "deabc", "eabcd"))
        for text in rounds(people_of(five.orders, (1, 1, 1, 1, 1))):
            self.assertIs(accepts(claim_of("round", five, (1, 1, 1, 1, 1)), text), True)
            self.never(claim_of("round", five, (1, 1, 1, 1, 1)), text[::-1])

    def test_orders_of_the_most(self):
        chosen = random.Random(4)
        for roll in SMALL:
            for _ in range(12):
                numbers = tuple(chosen.choice((0, 1, 1, 2, 3)) for _ in roll.orders)
                for order in orders_of(roll.things):
                    self.told(claim_of("order", roll, numbers, order), ())

    def test_orders_of_the_most_bent(self):
        for roll, numbers in ((HILLS, (2, 0, 1, 2)), (SOME, (1, 1, 1)), (Roll(("ykz", "zky")), (1, 2)), (FEW, (4, 1, 1))):
            claim = claim_of("order", roll, numbers, most(people_of(roll.orders, numbers)))
            self.bent(claim, ())
            self.bent_claims(claim, ())
            for other in (None, "", [], ((),), (None,), claim[3], 0, False):
                self.never(claim, other)

    def test_no_order_of_the_most(self):
        for roll, numbers in ((WHEEL, (1, 1, 1)), (HILLS, (1, 0, 0, 1)), (FEW, (1, 0, 1))):
            for order in (*orders_of("abc"), None, "", "abd", 0, False, ()):
                self.never(claim_of("order", roll, numbers, order), ())

    def test_great_numbers(self):
        for roll in (WHEEL, EVERY, HILLS, SOME):
            for numbers in all_numbers(len(roll), 3)[::3]:
                people, many = people_of(roll.orders, numbers), tuple(GREAT * number for number in numbers)
                found = rounds(people)
                for text in (*found, *(each[::-1] for each in found), "abc", "cba"):
                    self.assertIs(accepts(claim_of("round", roll, many), text), text in found)
                for order in orders_of(roll.things):
                    self.assertIs(accepts(claim_of("order", roll, many, order), ()), order == most(people))
        self.assertIs(accepts(claim_of("round", WHEEL, (GREAT + 1, GREAT, GREAT)), "abc"), True)
        self.assertIs(accepts(claim_of("order", WHEEL, (2 * GREAT + 1, GREAT, GREAT), "abc"), ()), True)
        self.never(claim_of("order", WHEEL, (2 * GREAT, GREAT, GREAT), "abc"), ())
        self.never(claim_of("round", WHEEL, (2 * GREAT, GREAT, GREAT)), "abc")

    def test_numbers_that_are_none(self):
        rights = (((1, 1, 1), "bca"), ((2, 2, 3), "abc"))
        for numbers, text in rights:
            self.assertIs(accepts(claim_of("round", WHEEL, numbers), text), True)
        wrong = (
            (), (1, 1), (1, 1, 1, 1), (1, 1, 1, 0), [1, 1, 1], (True, 1, 1), (1, True, True), (1, 1, None), (1, 1, "1"),
            (2, 2, -1), (-1, -1, -1), (0, 0, 0), (1, 1, (1,)), None, 3, "111", (ANY, ANY, ANY), {1: 1}, True, WHEEL,
            Crowd(WHEEL, (1, 1, 1)), ((1, 1, 1),), nested(9), (GREAT, GREAT, -GREAT), (False, 1, 1))
        for numbers in wrong:
            self.never(claim_of("round", WHEEL, numbers), "bca")
            self.never(claim_of("order", WHEEL, numbers, "abc"), ())
        self.never(claim_of("order", HILLS, (2, False, True, 2), "bca"), ())


class ClaimTest(CheckerCase):
    def rights(self):
        """A right claim and certificate of each word."""
        return (
            (claim_of("calm", HILLS), (("b", "last"),)), (claim_of("rough", WHEEL), ("abc", WHEEL.orders)),
            (claim_of("closed", HILLS), ()), (claim_of("spoken", HILLS), ()),
            (claim_of("open", SOME), ("abcd", "bcda", "cbad")), (claim_of("unspoken", SOME), ("abcd", "bcda", "cbad")),
            (claim_of("full", HILLS), (("acb", "abc"), ("cab", "abc"))), (claim_of("round", WHEEL, (1, 1, 1)), "bca"),
            (claim_of("order", HILLS, (2, 0, 1, 2), "bca"), ()))

    def test_claims_bent_at_one_place(self):
        for claim, certificate in self.rights():
            self.bent_claims(claim, certificate)
            self.bent(claim, certificate)

    def test_other_words(self):
        for claim, certificate in self.rights():
            for other, _ in self.rights():
                self.told((other[0], *claim[1:]), certificate)
                self.told(claim[:2] + other[2:], certificate)
            for word in ("", "Calm", "calm ", "rough ", "places", "holds", "few", None, 0, ANY, ("calm",), b"calm"):
                self.never((word, *claim[1:]), certificate)

    def test_certificates_of_another_claim(self):
        for claim, _ in self.rights():
            for _, certificate in self.rights():
                self.told(claim, certificate)

    def test_words_that_want_another_length(self):
        for word in OF_ROLLS:
            self.never(claim_of(word, HILLS, (1, 1, 1, 1)), ())
            self.never(claim_of(word, HILLS, (1, 1, 1, 1), "abc"), ())
            self.never((word,), ())
        for word in ("round", "order"):
            self.never(claim_of(word, HILLS), ())
            self.never(claim_of(word, HILLS, (1, 0, 0, 0), "abc", "abc"), ())
        self.never(claim_of("round", WHEEL, (1, 1, 1), "abc"), "bca")
        self.never(claim_of("round", WHEEL, (1, 1, 1), "abc"), ())
        self.never(claim_of("order", HILLS, (2, 0, 1, 2)), ())

    def test_texts_of_no_roll(self):
        texts = (
            "", "\n", "abc\n", "\nabc", "abc\n\nbca", "bca\nabc", "abc\nabc", "abc\nabd", "ab\nba", "abcdefg", "abc bca",
            "abc,bca", "ABC", "aab", "abc\nbcad", "\n".join(SIX[:49]), " abc", "abc\r\nbca", "a" * 4000)
        for text in texts:
            for word in OF_ROLLS:
                for certificate in ((), (("a", "last"),), ("abc", ("abc", "bca", "cab"))):
                    self.never((word, text), certificate)
            self.never(("round", text, (1,)), "abc")
            self.never(("order", text, (1,), "abc"), ())
        self.assertIs(accepts(("closed", "abc"), ()), True)
        self.assertIs(accepts(("order", "abc", (1,), "abc"), ()), True)

    def test_rolls_are_no_texts(self):
        for value in NO_ROLLS + [HILLS, HILLS.orders, list(HILLS.orders)]:
            if not isinstance(value, str):
                for word in ("closed", "spoken", "calm"):
                    self.never((word, value), ())
                self.never(("order", value, (1,), "abc"), ())

    def test_any_values_on_both_sides(self):
        values = [*NO_ORDERS, HILLS, Crowd(HILLS, (1, 0, 0, 0)), nested(10), ("calm",), ["calm", "abc"], ("calm", None)]
        for value in values:
            for other in (value, (), None, "bca", (("b", "last"),)):
                self.never(value, other)
                self.never((value, "abc"), other)
                self.never(("calm", value, value), other)
                self.never(("round", "abc", value), other)
                self.never(("order", "abc", (1,), value), None)
        for claim, certificate in self.rights():
            for value in values:
                self.told(claim, value)
                self.told(claim, (value,))
                self.told(claim, (value, value))
                self.told(claim, (value, value, value))
                self.told(claim, ((value, value),))
                self.told(claim, (("b", value),))
                self.told(claim, ("abc", value))
                self.told(claim, (value, certificate))

    def test_asked_again(self):
        for claim, certificate in self.rights() * 2:
            self.assertIs(accepts(claim, certificate), True)
            self.never(claim, [certificate])


if __name__ == "__main__":
    unittest.main()
