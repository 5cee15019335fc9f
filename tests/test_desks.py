import random
import unittest
from unittest.mock import ANY

from calmlists.desks import Desk
from calmlists.errors import (
    Broken, InvalidNumber, InvalidOrder, InvalidWish, NotARoll, NothingToUndo, TooFew, TooMany, UnknownOrder,
)
from calmlists.most import is_closed, is_spoken
from calmlists.rolls import Roll
from calmlists.threes import is_calm, places
from calmlists.widening import is_full
from desk_case import DeskCase
from samples import EVERY, FEW, FOUR, HILLS, LARGE, SIX, SOME, SQUARE, WHEEL
from support import NO_ORDERS, NO_ROLLS, NO_STRINGS, Shy, orders_of, threes_in

GREAT = 10 ** 90
FULL_UP = Roll(SIX[:48])
NO_INDEXES = [*NO_STRINGS, -1, -2, "0", "1", "", GREAT, -GREAT, (0,), [0], b"0"]
RIGHT_WISHES = [
    ("calm",), ("closed",), ("spoken",), ("full",), ("holds", "abc"), ("holds", "zyxwvu"), ("holds", "dacb"),
    ("lacks", "abc"), ("lacks", "fedcba"), ("lacks", "bzmk"), ("place", "abc", "a", "first"),
    ("place", "abz", "z", "middle"), ("place", "xyz", "y", "last"), ("few", 0), ("few", 1), ("few", 47), ("few", 48),
]
NO_WISHES = [
    *NO_ORDERS, "calm", "abc", ["calm"], ["holds", "abc"], ["few", 3], ["place", "abc", "a", "first"], {"calm": 1},
    ("calm", "calm"), ("calm", None), ("calm", ()), ("closed", "abc"), ("spoken", 3), ("full", "full"), ("Calm",),
    ("calm ",), ("cal",), ("",), ("rough",), ("open",), ("unspoken",), ("round",), ("order",), (("calm",),), ("CALM",),
    ("holds",), ("lacks",), ("place",), ("few",), ("abc",), ("abc", "holds"), ("holds", "abc", "bca"), ("Holds", "abc"),
    ("lacks", "abc", None), ("holds", ("abc",)), ("lacks", ["abc"]), ("calm", "abc"), ("place", "abc"), ("few", "abc"),
    ("few", -1), ("few", 49), ("few", GREAT), ("few", -GREAT), ("few", True), ("few", False), ("few", None),
    ("few", "3"), ("few", ""), ("few", (3,)), ("few", [3]), ("few", b"3"), ("few", 3, 3), ("Few", 3), (3, "few"),
    ("holds", 3), ("calm", 3), ("few", ANY), ("few", Shy()),
    ("place", "abc", "a"), ("place", "abc", "a", "first", "first"), ("place", "abc", "a", "first", None),
    ("place", "abc", "d", "first"), ("place", "abc", "", "first"), ("place", "abc", "ab", "first"),
    ("place", "abc", "abc", "first"), ("place", "acb", "a", "first"), ("place", "cba", "a", "first"),
    ("place", "ab", "a", "first"), ("place", "abcd", "a", "first"), ("place", "aab", "a", "first"),
    ("place", "", "", "first"), ("place", "abc", "A", "first"), ("place", "ABC", "A", "first"),
    ("place", "abc", "a", "First"), ("place", "abc", "a", ""), ("place", "abc", "a", "firs"),
    ("place", "abc", "a", "best"), ("place", "abc", "first", "a"), ("place", "a", "abc", "first"),
    ("place", "abc", ("a", "first")), ("place", ("abc", "a", "first")), ("abc", "a", "first"),
    ("holds", "abc", "a", "first"), ("place", "abc", "a", 0), ("place", "abc", 0, "first"), ("place", 0, "a", "first"),
    ("Place", "abc", "a", "first"), (None, "abc", "a", "first"),
]
for other in NO_STRINGS:
    NO_WISHES.extend([(other,), (other, "abc"), ("holds", other), ("lacks", other), (other, 3)])
    NO_WISHES.extend([("place", other, "a", "first"), ("place", "abc", other, "first"), ("place", "abc", "a", other)])
    # What is an integer from 0 to 48 is right here.
    if other.__class__ is not int or not 0 <= other <= 48:
        NO_WISHES.append(("few", other))
for text in NO_ORDERS:
    NO_WISHES.extend([("holds", text), ("lacks", text)])


def holds(roll, wish):
    """Whether a wish holds of a roll."""
    word = wish[0]
    if word in ("calm", "closed", "spoken", "full"):
        return {"calm": is_calm, "closed": is_closed, "spoken": is_spoken, "full": is_full}[word](roll)
    if word == "few":
        return len(roll) <= wish[1]
    if word == "place":
        return wish[1] in threes_in(roll.things) and (wish[2], wish[3]) in places(roll, wish[1])
    return (wish[1] in roll.orders) is (word == "holds")


class NewTest(DeskCase):
    def test_a_new_desk(self):
        for roll in (HILLS, WHEEL, EVERY, FOUR, FULL_UP, Roll(("zyx",))):
            self.shows(Desk(roll), roll.orders, (), 0)
            self.shows(Desk(roll=roll), roll.orders, (), 0)
            self.assertTrue(Desk(roll))

    def test_no_roll(self):
        for value in [*NO_ROLLS, Desk(HILLS)]:
            self.refused(NotARoll, "given", value, Desk, value)
            self.refused(NotARoll, "given", value, Desk, roll=value)

    def test_equal_to_itself_alone(self):
        one, other = Desk(HILLS), Desk(HILLS)
        self.assertIs(one == one, True)
        self.assertIs(one != one, False)
        for value in [other, *NO_ORDERS, HILLS, ANY, Desk(WHEEL), Desk]:
            self.assertIs(one == value, False)
            self.assertIs(one != value, True)


class PutTest(DeskCase):
    def test_orders_are_put_in(self):
        desk = Desk(Roll(("bca",)))
        self.assertIs(desk.put("abc"), None)
        self.shows(desk, ("abc", "bca"), (), 1)
        self.assertIs(desk.put(order="cba"), None)
        self.shows(desk, ("abc", "bca", "cba"), (), 2)
        for order in ("cab", "bac", "acb"):
            desk.put(order)
        self.shows(desk, orders_of("abc"), (), 5)

    def test_48_orders(self):
        desk = Desk(Roll(SIX[:47]))
        desk.put(SIX[-1])
        self.shows(desk, (*SIX[:47], SIX[-1]), (), 1)

    def test_no_order(self):
        for value in [*NO_ORDERS, "abd", "abcd", "xyz", *HILLS.orders]:
            for desk in (Desk(HILLS), self.promised()):
                self.stays(desk, InvalidOrder, "given", value, desk.put, value)
                self.stays(desk, InvalidOrder, "given", value, desk.put, order=value)

    def test_one_too_many(self):
        desk = Desk(FULL_UP)
        self.stays(desk, TooMany, "given", 49, desk.put, SIX[48])
        self.stays(desk, InvalidOrder, "given", SIX[0], desk.put, SIX[0])
        desk.promise(("few", 48))
        desk.promise(("lacks", SIX[48]))
        self.stays(desk, TooMany, "given", 49, desk.put, SIX[48])
        self.stays(desk, InvalidOrder, "given", "abc", desk.put, "abc")

    def test_the_first_promise_that_would_not_hold(self):
        desk = Desk(FEW)
        for wish in (("lacks", "acb"), ("calm",), ("few", 4), ("lacks", "cab")):
            desk.promise(wish)
        self.stays(desk, Broken, "index", 0, desk.put, "acb")
        self.stays(desk, Broken, "index", 1, desk.put, "cab")
        desk.put("bac")
        self.shows(desk, HILLS.orders, (("lacks", "acb"), ("calm",), ("few", 4), ("lacks", "cab")), 5)
        desk.take("bac")
        desk.lift(1)
        self.stays(desk, Broken, "index", 2, desk.put, order="cab")
        desk.put("bac")
        self.stays(desk, Broken, "index", 1, desk.put, "cab")

    def test_closed_spoken_and_full(self):
        desk = Desk(Roll(("abcd", "bcda")))
        desk.promise(("closed",))
        self.stays(desk, Broken, "index", 0, desk.put, "cbad")
        desk.put("bcad")
        desk.promise(("spoken",))
        self.stays(desk, Broken, "index", 1, desk.put, "cbad")
        full = Desk(HILLS)
        full.promise(("full",))
        self.stays(full, Broken, "index", 0, full.put, "cab")
        self.stays(full, Broken, "index", 0, full.take, "abc")

    def test_other_desks_and_rolls_stay(self):
        roll, desk = Roll(("abc", "bca")), Desk(Roll(("abc", "bca")))
        one, other = Desk(roll), Desk(roll)
        told = one.roll
        one.put("cba")
        one.promise(("few", 4))
        held = one.promises
        one.take("abc")
        one.lift(0)
        self.assertEqual((roll.orders, told.orders, held), (("abc", "bca"), ("abc", "bca"), (("few", 4),)))
        self.shows(other, ("abc", "bca"), (), 0)
        self.shows(desk, ("abc", "bca"), (), 0)
        self.shows(one, ("bca", "cba"), (), 4)


class TakeTest(DeskCase):
    def test_orders_are_taken_out(self):
        desk = Desk(HILLS)
        self.assertIs(desk.take("bac"), None)
        self.shows(desk, FEW.orders, (), 1)
        self.assertIs(desk.take(order="abc"), None)
        self.shows(desk, ("bca", "cba"), (), 2)
        desk.take("cba")
        self.shows(desk, ("bca",), (), 3)

    def test_no_order(self):
        for value in [*NO_ORDERS, "abd", "abcd", "xyz"]:
            desk = Desk(HILLS)
            self.stays(desk, InvalidOrder, "given", value, desk.take, value)
            self.stays(desk, InvalidOrder, "given", value, desk.take, order=value)

    def test_no_order_of_the_roll(self):
        for roll in (HILLS, Roll(("abc",))):
            desk = Desk(roll)
            for value in ("acb", "cab"):
                self.stays(desk, UnknownOrder, "given", value, desk.take, value)
                self.stays(desk, UnknownOrder, "given", value, desk.take, order=value)

    def test_the_last_one(self):
        desk = Desk(Roll(("abc",)))
        desk.promise(("holds", "abc"))
        self.stays(desk, TooFew, "given", 0, desk.take, "abc")
        self.stays(desk, UnknownOrder, "given", "cba", desk.take, "cba")
        self.stays(desk, InvalidOrder, "given", "cbd", desk.take, "cbd")

    def test_the_first_promise_that_would_not_hold(self):
        desk = Desk(HILLS)
        for wish in (("few", 4), ("holds", "bca"), ("full",), ("holds", "abc")):
            desk.promise(wish)
        self.stays(desk, Broken, "index", 1, desk.take, "bca")
        self.stays(desk, Broken, "index", 2, desk.take, "abc")
        desk.lift(2)
        self.stays(desk, Broken, "index", 2, desk.take, "abc")
        desk.take("bac")
        self.shows(desk, FEW.orders, (("few", 4), ("holds", "bca"), ("holds", "abc")), 6)

    def test_closed(self):
        desk = Desk(Roll(("abcd", "bcad", "bcda", "cbad")))
        desk.promise(("closed",))
        self.stays(desk, Broken, "index", 0, desk.take, "bcad")
        desk.take("cbad")


class PromiseTest(DeskCase):
    def test_each_wish_exactly_if_it_holds(self):
        for roll in (HILLS, WHEEL, FEW, FOUR, SOME, SQUARE, LARGE[2], FULL_UP, Roll(("abc",)), Roll(("xyz", "zyx"))):
            for wish in RIGHT_WISHES:
                desk = Desk(roll)
                if holds(roll, wish):
                    self.assertIs(desk.promise(wish), None)
                    self.shows(desk, roll.orders, (wish,), 1)
                    self.assertIs(desk.promise(wish=wish), None)
                    self.shows(desk, roll.orders, (wish, wish), 2)
                else:
                    self.stays(desk, Broken, "index", 0, desk.promise, wish)
                    desk.promise(("few", 48))
                    self.stays(desk, Broken, "index", 1, desk.promise, wish=wish)

    def test_words_for_the_whole_roll(self):
        told = (
            (HILLS, ("calm", "closed", "spoken", "full")), (FEW, ("calm", "closed", "spoken")), (WHEEL, ()), (EVERY, ()),
            (SQUARE, ("calm", "closed", "spoken")), (FOUR, ("calm", "closed", "full")), (SOME, ("calm",)))
        for roll, words in told:
            for word in ("calm", "closed", "spoken", "full"):
                desk = Desk(roll)
                if word in words:
                    desk.promise((word,))
                else:
                    self.stays(desk, Broken, "index", 0, desk.promise, (word,))

    def test_each_place(self):
        for roll in (HILLS, FEW, WHEEL, FOUR, Roll(("abc",)), Roll(("wxyz", "zwyx"))):
            for three in (*threes_in(roll.things), "abe", "xyz", "abc", "def"):
                for thing in three:
                    for word in ("first", "last", "middle"):
                        desk, wish = Desk(roll), ("place", three, thing, word)
                        if three in threes_in(roll.things) and (thing, word) in places(roll, three):
                            desk.promise(wish)
                            self.shows(desk, roll.orders, (wish,), 1)
                        else:
                            self.stays(desk, Broken, "index", 0, desk.promise, wish)

    def test_each_number(self):
        for roll in (Roll(("abc",)), HILLS, Roll(SIX[:47]), FULL_UP):
            for number in range(49):
                desk = Desk(roll)
                if len(roll) <= number:
                    desk.promise(("few", number))
                else:
                    self.stays(desk, Broken, "index", 0, desk.promise, ("few", number))

    def test_holds_and_lacks(self):
        for order in (*orders_of("abc"), "abd", "abcd", "fedcba"):
            desk, there = Desk(HILLS), order in HILLS.orders
            yes, no = ("holds", "lacks") if there else ("lacks", "holds")
            desk.promise((yes, order))
            self.stays(desk, Broken, "index", 1, desk.promise, (no, order))

    def test_no_wish(self):
        for value in NO_WISHES:
            for desk in (Desk(HILLS), self.promised()):
                with self.subTest(value=repr(value)[:80]):
                    self.stays(desk, InvalidWish, "given", value, desk.promise, value)
                    self.stays(desk, InvalidWish, "given", value, desk.promise, wish=value)

    def test_behind_the_others(self):
        desk = Desk(HILLS)
        wishes = [("calm",), ("few", 4), ("few", 4), ("holds", "abc"), ("few", 5), ("calm",)]
        for at, wish in enumerate(wishes):
            desk.promise(wish)
            self.shows(desk, HILLS.orders, tuple(wishes[:at + 1]), at + 1)
        self.stays(desk, Broken, "index", 6, desk.promise, ("few", 3))


class LiftTest(DeskCase):
    def test_promises_are_lifted(self):
        desk = Desk(HILLS)
        for number in range(4, 9):
            desk.promise(("few", number))
        self.assertIs(desk.lift(1), None)
        self.shows(desk, HILLS.orders, (("few", 4), ("few", 6), ("few", 7), ("few", 8)), 6)
        self.assertIs(desk.lift(index=3), None)
        self.shows(desk, HILLS.orders, (("few", 4), ("few", 6), ("few", 7)), 7)
        desk.lift(0)
        self.shows(desk, HILLS.orders, (("few", 6), ("few", 7)), 8)
        desk.put("cab")
        desk.lift(0)
        desk.lift(0)
        self.shows(desk, ("abc", "bac", "bca", "cab", "cba"), (), 11)

    def test_no_index_of_a_promise(self):
        desk = Desk(HILLS)
        for many in range(3):
            for value in [*NO_INDEXES, many, many + 1, many + 2]:
                if value.__class__ is int and 0 <= value < many:
                    continue
                self.stays(desk, InvalidNumber, "given", value, desk.lift, value)
                self.stays(desk, InvalidNumber, "given", value, desk.lift, index=value)
            desk.promise(("few", 4))

    def test_true_and_false_are_no_numbers(self):
        desk = Desk(HILLS)
        desk.promise(("calm",))
        desk.promise(("full",))
        self.stays(desk, InvalidNumber, "given", True, desk.lift, True)
        self.stays(desk, InvalidNumber, "given", False, desk.lift, False)


class UndoTest(DeskCase):
    def test_all_that_was_done_taken_back_one_by_one(self):
        desk = Desk(FEW)
        deeds = (
            lambda: desk.promise(("calm",)), lambda: desk.put("bac"), lambda: desk.promise(("full",)),
            lambda: desk.lift(0), lambda: desk.promise(("few", 4)), lambda: desk.lift(0), lambda: desk.take("abc"),
            lambda: desk.put("acb"))
        seen = []
        for deed in deeds:
            seen.append(self.now(desk))
            self.assertIs(deed(), None)
        self.shows(desk, ("acb", "bac", "bca", "cba"), (("few", 4),), 8)
        while seen:
            self.assertIs(desk.undo(), None)
            self.shows(desk, *seen.pop())
        self.stays(desk, NothingToUndo, None, None, desk.undo)
        self.shows(desk, FEW.orders, (), 0)

    def test_nothing_to_undo(self):
        for roll in (HILLS, WHEEL, FULL_UP):
            desk = Desk(roll)
            self.stays(desk, NothingToUndo, None, None, desk.undo)
            for call in (lambda: desk.put("abd"), lambda: desk.lift(0), lambda: desk.promise(("few", 0))):
                with self.assertRaises((InvalidOrder, InvalidNumber, Broken)):
                    call()
            self.stays(desk, NothingToUndo, None, None, desk.undo)

    def test_undoing_is_no_change_that_is_taken_back(self):
        desk = Desk(FEW)
        desk.put("bac")
        desk.take("abc")
        desk.undo()
        desk.undo()
        self.shows(desk, FEW.orders, (), 0)
        desk.put("acb")
        self.shows(desk, ("abc", "acb", "bca", "cba"), (), 1)
        desk.undo()
        self.shows(desk, FEW.orders, (), 0)

    def test_a_promise_that_is_taken_back_binds_no_longer(self):
        desk = Desk(FEW)
        desk.promise(("few", 3))
        self.stays(desk, Broken, "index", 0, desk.put, "bac")
        desk.undo()
        desk.put("bac")
        desk.promise(("few", 4))
        desk.lift(0)
        desk.undo()
        # The promise that was lifted is there again.
        self.stays(desk, Broken, "index", 0, desk.put, "cab")


class DrawnTest(DeskCase):
    def deed(self, desk, chosen, held):
        """One deed, by chance, with what must come of it; what there was before stands in `held`."""
        roll, promises = held[-1]
        word = chosen.choice(("put", "put", "take", "take", "promise", "promise", "lift", "undo", "undo"))
        if word in ("put", "take"):
            choices = [order for order in orders_of(roll.things) if (order in roll) is (word == "take")]
            if not choices or (word == "take" and len(roll) == 1):
                return
            order = chosen.choice(choices)
            other = roll.more(order) if word == "put" else roll.without(order)
            broken = [at for at, wish in enumerate(promises) if not holds(other, wish)]
            call = desk.put if word == "put" else desk.take
            if broken:
                self.stays(desk, Broken, "index", broken[0], call, order)
            else:
                call(order)
                held.append((other, promises))
        elif word == "promise":
            order = chosen.choice(orders_of(roll.things))
            wish = chosen.choice([*RIGHT_WISHES, ("holds", order), ("lacks", order), ("few", len(roll) + 1)])
            if holds(roll, wish):
                desk.promise(wish)
                held.append((roll, (*promises, wish)))
            else:
                self.stays(desk, Broken, "index", len(promises), desk.promise, wish)
        elif word == "lift":
            at = chosen.randrange(len(promises) + 1)
            if at < len(promises):
                desk.lift(at)
                held.append((roll, promises[:at] + promises[at + 1:]))
            else:
                self.stays(desk, InvalidNumber, "given", at, desk.lift, at)
        elif len(held) > 1:
            desk.undo()
            held.pop()
        else:
            self.stays(desk, NothingToUndo, None, None, desk.undo)

    def test_many_deeds(self):
        chosen = random.Random(21)
        for roll in (FEW, HILLS, WHEEL, Roll(("abcd", "bacd", "dcba")), FOUR, LARGE[0]):
            for _ in range(4):
                desk, held = Desk(roll), [(roll, ())]
                for _ in range(40):
                    self.deed(desk, chosen, held)
                    roll_now, promises = held[-1]
                    self.shows(desk, roll_now.orders, promises, len(held) - 1)
                    self.assertEqual([wish for wish in promises if not holds(desk.roll, wish)], [])
                while len(held) > 1:
                    desk.undo()
                    held.pop()
                    self.shows(desk, held[-1][0].orders, held[-1][1], len(held) - 1)
                self.stays(desk, NothingToUndo, None, None, desk.undo)


class ExamplesTest(DeskCase):
    def test_of_the_document(self):
        desk = Desk(FEW)
        desk.promise(("calm",))
        desk.put("bac")
        self.assertEqual([desk.roll == HILLS, desk.changes, desk.promises], [True, 2, (("calm",),)])
        self.stays(desk, Broken, "index", 0, desk.put, "cab")
        desk.promise(("place", "abc", "b", "last"))
        desk.undo()
        self.assertEqual([desk.changes, desk.promises], [2, (("calm",),)])


if __name__ == "__main__":
    unittest.main()
