import random
import unittest

from calmlists.certificates import certify, certify_closed, certify_crowd, certify_full, certify_spoken
from calmlists.checker import accepts
from calmlists.crowds import Crowd
from calmlists.errors import NotACrowd
from calmlists.most import is_closed, is_spoken
from calmlists.rolls import Roll
from calmlists.threes import is_calm
from calmlists.widening import full, is_full
from claims import bends, is_right
from samples import (
    CALM, CHANGES, EVERY, FEW, FIVE_THERE, FOUR, HILLS, LARGE, NO_CROWDS, PARTS, ROUGH, SIX, SOME, SQUARE, THREE_THERE,
    WHEEL, changed, drawn_rolls,
)
from support import Case, all_numbers, all_rolls, most, orders_of, people_of, rounds

GREAT = 10 ** 90
SMALL = [*all_rolls("abc"), SOME, SQUARE, *drawn_rolls("abcd", 12, 1, 6), Roll(("ykz", "zky"))]
ALL = [*SMALL, FOUR, *LARGE, *PARTS[::5], *ROUGH[-2:], Roll(SIX[-48:]), *drawn_rolls("abcde", 4), Roll(("fedcba",))]


class CertificateCase(Case):
    def certified(self, call, given, words):
        """The pair is one of a claim with one of these words and a right certificate; it is returned."""
        found = call(given)
        self.assertIs(found.__class__, tuple)
        self.assertEqual(len(found), 2)
        claim, certificate = found
        self.assertIs(claim.__class__, tuple)
        self.assertIn(claim[0], words)
        roll = given.roll if isinstance(given, Crowd) else given
        self.assertIs(claim[1].__class__, str)
        self.assertEqual(claim[1], "\n".join(roll.orders))
        self.assertIs(accepts(claim, certificate), True)
        self.assertIs(accepts(*call(given)), True)
        self.assertEqual(call(given), found)
        return found


class OfRollsTest(CertificateCase):
    def test_calm_or_rough(self):
        for roll in ALL:
            claim, certificate = self.certified(certify, roll, ("calm", "rough"))
            self.assertEqual(len(claim), 2)
            self.assertEqual(claim[0], "calm" if is_calm(roll) else "rough")
            self.assertEqual(certify(roll=roll), (claim, certificate))

    def test_closed_or_open(self):
        for roll in ALL:
            claim, certificate = self.certified(certify_closed, roll, ("closed", "open"))
            self.assertEqual(len(claim), 2)
            self.assertEqual(claim[0], "closed" if is_closed(roll) else "open")
            self.assertEqual(certify_closed(roll=roll), (claim, certificate))

    def test_spoken_or_unspoken(self):
        for roll in ALL:
            claim, certificate = self.certified(certify_spoken, roll, ("spoken", "unspoken"))
            self.assertEqual(len(claim), 2)
            self.assertEqual(claim[0], "spoken" if is_spoken(roll) else "unspoken")
            self.assertEqual(certify_spoken(roll=roll), (claim, certificate))

    def test_full_or_none(self):
        fulls = [full(FEW), full(SQUARE), full(Roll(("kmtz",))), full(SOME), full(Roll(("edcba",)))]
        for roll in [*ALL, *fulls]:
            if is_full(roll):
                claim, certificate = self.certified(certify_full, roll, ("full",))
                self.assertEqual(len(claim), 2)
                lacked = [order for order in orders_of(roll.things) if order not in roll.orders]
                self.assertEqual([order for order, _ in certificate], lacked)
                self.assertEqual(certify_full(roll=roll), (claim, certificate))
            else:
                self.assertIs(certify_full(roll), None)
                self.assertIs(certify_full(roll=roll), None)

    def test_by_the_definitions(self):
        for roll in SMALL:
            for call in (certify, certify_closed, certify_spoken, certify_full):
                found = call(roll)
                if found is not None:
                    self.assertTrue(is_right(*found))

    def test_returned_and_changed(self):
        for roll in (HILLS, WHEEL, SOME, FOUR):
            for call in (certify, certify_closed, certify_spoken, certify_full):
                if call(roll) is not None and roll is not FOUR:
                    claim, certificate = call(roll)
                    for other in bends(certificate):
                        self.assertIs(accepts(claim, other), is_right(claim, other))
                    for other in bends(claim):
                        self.assertIs(accepts(other, certificate), is_right(other, certificate))
                elif call(roll) is not None:
                    claim, certificate = call(roll)
                    self.assertIs(accepts(claim, list(certificate)), False)
                    self.assertIs(accepts(list(claim), certificate), False)

    def test_changed_likewise(self):
        for roll in ALL[::3]:
            for change in CHANGES:
                other = changed(roll, change)
                for call in (certify, certify_closed, certify_spoken):
                    self.assertEqual(call(other)[0], (call(roll)[0][0], str(other)))
                    self.assertIs(accepts(*call(other)), True)
                    # What is certified of one roll is not certified of another one.
                    self.assertIs(accepts(call(other)[0], None), False)
                self.assertIs(certify_full(other) is None, certify_full(roll) is None)

    def test_no_roll(self):
        for call in (certify, certify_closed, certify_spoken, certify_full):
            self.refuses_no_rolls(call)


class OfCrowdsTest(CertificateCase):
    def told(self, crowd):
        people = people_of(crowd.roll.orders, crowd.numbers)
        order, found = most(people), rounds(people)
        if order is not None:
            claim, certificate = self.certified(certify_crowd, crowd, ("order",))
            self.assertEqual(claim[2:], (crowd.numbers, order))
            self.assertEqual(certificate, ())
            self.assertIs(certificate.__class__, tuple)
            self.assertIs(claim[2].__class__, tuple)
        elif found:
            claim, certificate = self.certified(certify_crowd, crowd, ("round",))
            self.assertEqual(claim[2:], (crowd.numbers,))
            self.assertIn(certificate, found)
        else:
            self.assertIs(certify_crowd(crowd), None)
        self.assertEqual(certify_crowd(crowd=crowd), certify_crowd(crowd))

    def test_small_crowds(self):
        for roll in (HILLS, WHEEL, SOME, SQUARE, Roll(("abcd", "bcda", "cdab", "dabc"))):
            for numbers in all_numbers(len(roll), 4):
                self.told(Crowd(roll, numbers))
        for numbers in all_numbers(6, 3):
            self.told(Crowd(EVERY, numbers))

    def test_crowds_of_four_to_six_things(self):
        chosen = random.Random(14)
        for roll in [*drawn_rolls("abcd", 20, 1, 8), *drawn_rolls("abcde", 8, 1, 7), *drawn_rolls("uvwxyz", 6, 1, 7)]:
            for _ in range(4):
                numbers = [chosen.choice((0, 1, 1, 2, 4)) for _ in roll.orders]
                numbers[0] += 1
                self.told(Crowd(roll, tuple(numbers)))

    def test_great_numbers(self):
        for roll, numbers in ((WHEEL, (GREAT, GREAT, GREAT)), (HILLS, (GREAT, 0, GREAT - 1, GREAT)), (SOME, (GREAT, 1, 1))):
            crowd = Crowd(roll, numbers)
            claim, certificate = self.certified(certify_crowd, crowd, ("order", "round"))
            self.assertEqual(claim[0], "round" if roll is WHEEL else "order")
            self.assertEqual(claim[2], numbers)
        self.assertIs(certify_crowd(Crowd(HILLS, (GREAT, 0, 0, GREAT))), None)

    def test_a_tie_and_a_round(self):
        # A round of three things, and a fourth one that is tied with each of them.
        one = Crowd(Roll(("abcd", "bcad", "cabd", "dabc", "dbca", "dcab")), (1,) * 6)
        # A round of four things, and none of three.
        other = Crowd(Roll(("abcd", "bcda", "cdab", "dabc")), (1, 1, 1, 1))
        for crowd in (one, other):
            self.assertTrue(crowd.ties())
            self.assertEqual(certify_crowd(crowd)[0][0], "round")
            self.told(crowd)

    def test_no_crowd(self):
        for value in NO_CROWDS:
            self.refused(NotACrowd, "given", value, certify_crowd, value)
            self.refused(NotACrowd, "given", value, certify_crowd, crowd=value)


class AllAcceptedTest(CertificateCase):
    def test_of_all_calm_and_rough_samples(self):
        for roll in [*CALM, *ROUGH]:
            for call in (certify, certify_closed, certify_spoken):
                self.assertIs(accepts(*call(roll)), True)
            crowd = Crowd(roll, (1,) * len(roll))
            if certify_crowd(crowd) is not None:
                self.assertIs(accepts(*certify_crowd(crowd)), True)


class ExamplesTest(CertificateCase):
    def test_of_the_document(self):
        text = str(HILLS)
        self.assertEqual(
            [certify(HILLS), certify(WHEEL)[0][0], certify_closed(SOME)[0][0], certify_spoken(HILLS)[0][0],
             certify_full(HILLS), certify_full(FEW)],
            [(("calm", "abc\nbac\nbca\ncba"), (("b", "last"),)), "rough", "open", "spoken",
             (("full", "abc\nbac\nbca\ncba"), (("acb", "abc"), ("cab", "abc"))), None])
        self.assertEqual(
            [certify_crowd(FIVE_THERE), certify_crowd(THREE_THERE)[0],
             accepts(("round", str(WHEEL), (1, 1, 1)), "bca"), accepts(("round", str(WHEEL), (1, 1, 1)), "cba"),
             accepts(("calm", text), (("a", "last"),))],
            [(("order", "abc\nbac\nbca\ncba", (2, 0, 1, 2), "bca"), ()), ("round", "abc\nbca\ncab", (1, 1, 1)), True,
             False, False])


if __name__ == "__main__":
    unittest.main()
