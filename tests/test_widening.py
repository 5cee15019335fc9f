import random
import unittest
from itertools import combinations

from calmlists.errors import InvalidRules, InvalidThings, NotCalm, TooMany
from calmlists.rolls import Roll
from calmlists.threes import is_calm
from calmlists.widening import all_full, full, is_full, kept, wider
from samples import (
    CALM, CHANGES, EVERY, FEW, FOUR, HILLS, LARGE, PARTS, ROUGH, SIX, SOME, SQUARE, WHEEL, changed, drawn_rolls,
    kept_calm, parts_of,
)
from support import (
    NO_ORDERS, NO_STRINGS, Case, all_rolls, calm, most, nested, orders_of, people_of, threes_in, where,
)

WORDS = ("first", "middle", "last")
SMALL = [*all_rolls("abc"), FOUR, SOME, SQUARE, *PARTS[:60], *drawn_rolls("abcd", 60, 1, 6)]
LARGER = [*LARGE, *PARTS[100::6], *drawn_rolls("abcde", 8, 1, 4), *drawn_rolls("uvwxyz", 2, 1, 3), Roll((SIX[100],))]
MIDDLES = tuple((three, three[1], "first" if three[1] in "bdf" else "last") for three in threes_in("abcdef"))


def put_in(roll):
    """All orders that can be put in, each tried by itself."""
    others = [order for order in orders_of(roll.things) if order not in roll]
    return tuple([order for order in others if is_calm(roll) and is_calm(roll.more(order))])


class WiderTest(Case):
    def told(self, roll, orders):
        found = wider(roll)
        self.assertIs(found.__class__, tuple)
        self.assertEqual(found, orders)
        self.assertEqual(wider(roll=roll), orders)
        told = is_calm(roll) and orders == ()
        self.assertIs(is_full(roll), told)
        self.assertIs(is_full(roll=roll), told)

    def test_by_the_definition(self):
        for roll in all_rolls("abc"):
            lacked = [order for order in orders_of("abc") if order not in roll.orders]
            orders = [order for order in lacked if calm((*roll.orders, order))] if calm(roll.orders) else []
            self.told(roll, tuple(orders))
        for roll in drawn_rolls("abcd", 12, 1, 4):
            lacked = [order for order in orders_of("abcd") if order not in roll.orders]
            orders = [order for order in lacked if calm((*roll.orders, order))] if calm(roll.orders) else []
            self.told(roll, tuple(orders))

    def test_just_those_with_which_it_is_calm(self):
        for roll in [*SMALL, *LARGER]:
            self.told(roll, put_in(roll))

    def test_one_order(self):
        for things in ("abc", "abcd", "vwxyz", "abcdef"):
            for order in orders_of(things)[::50]:
                # Two orders are always calm.
                self.told(Roll((order,)), tuple(each for each in orders_of(things) if each != order))

    def test_rolls_that_are_not_calm(self):
        for roll in [*ROUGH, Roll(SIX[-48:]), Roll(SIX[::15]), Roll(orders_of("abcde", 48))]:
            self.told(roll, ())

    def test_full_rolls(self):
        for roll in [HILLS, FOUR, *LARGE, kept("abcdef", MIDDLES)]:
            self.told(roll, ())
            self.assertTrue(is_full(roll))
            for order in roll.orders[::7]:
                # It can be put in again, but is no order that can be put into the full roll.
                self.assertIn(order, wider(roll.without(order)))
                self.assertFalse(is_full(roll.without(order)))

    def test_no_crowd_goes_round_with_one_more(self):
        for roll in (FEW, SOME, SQUARE):
            for order in wider(roll):
                more = roll.more(order)
                for three in combinations(more.orders, 3):
                    self.assertIsNotNone(most(people_of(three, (1, 1, 1))))

    def test_no_roll(self):
        self.refuses_no_rolls(wider)
        self.refuses_no_rolls(is_full)


class FullTest(Case):
    def test_a_full_roll_that_holds_this_one(self):
        for roll in [each for each in [*SMALL, *LARGER, *CALM] if is_calm(each)]:
            before, found = roll.orders, full(roll)
            self.assertIs(found.__class__, Roll)
            self.assertEqual([order for order in before if order not in found], [])
            self.assertEqual(found.things, roll.things)
            self.assertTrue(is_calm(found))
            self.assertEqual(wider(found), ())
            self.assertTrue(is_full(found))
            self.assertEqual(full(roll=Roll(before)), found)
            self.assertEqual(roll.orders, before)

    def test_a_full_roll_is_its_own(self):
        for roll in [HILLS, FOUR, *LARGE, kept("abcdef", MIDDLES)]:
            self.assertEqual(full(roll), roll)

    def test_rolls_that_are_not_calm(self):
        for roll in ROUGH:
            for call in (lambda: full(roll), lambda: full(roll=roll)):
                with self.assertRaises(NotCalm) as held:
                    call()
                self.assertIs(held.exception.__class__, NotCalm)
                self.assertIs(held.exception.given.__class__, str)
                self.assertEqual(held.exception.given, "\n".join(roll.orders))

    def test_no_roll(self):
        self.refuses_no_rolls(full)


class AllFullTest(Case):
    def test_all_parts_of_six_orders(self):
        whole = [roll for roll in all_rolls("abc") if calm(roll.orders)]
        fulls = [roll for roll in whole if put_in(roll) == ()]
        for roll in all_rolls("abc"):
            around = [each.orders for each in fulls if set(roll.orders) <= set(each.orders)]
            found = all_full(roll)
            self.assertIs(found.__class__, tuple)
            self.assertEqual([each.__class__ for each in found], [Roll] * len(found))
            self.assertEqual([each.orders for each in found], sorted(around))
            self.assertEqual(all_full(roll=roll) == found, True)

    def test_one_order_of_three_things(self):
        for order in (*orders_of("abc"), "zqk"):
            self.assertEqual(len(all_full(Roll((order,)))), 6)
            self.assertEqual([len(each) for each in all_full(Roll((order,)))], [4] * 6)

    def test_four_things(self):
        for roll in [each for each in SMALL if len(each.things) == 4][::9]:
            found = [each.orders for each in all_full(roll)]
            self.assertEqual(found, sorted(set(found)))
            for orders in found:
                self.assertLessEqual(set(roll.orders), set(orders))
                self.assertEqual(put_in(Roll(orders)), ())
                self.assertTrue(is_calm(Roll(orders)))
            if is_calm(roll):
                self.assertIn(full(roll).orders, found)

    def test_none_of_four_things_is_left_out(self):
        chosen = random.Random(6)
        for roll in (Roll(("abcd",)), Roll(("abcd", "badc")), SOME, SQUARE, Roll(("bdca", "dacb"))):
            found = [each.orders for each in all_full(roll)]
            for _ in range(60):
                orders, others = roll.orders, list(orders_of("abcd"))
                chosen.shuffle(others)
                for order in others:
                    if order not in orders and is_calm(Roll(tuple(sorted([*orders, order])))):
                        orders = (*orders, order)
                self.assertIn(tuple(sorted(orders)), found)

    def test_one_order_of_four_things(self):
        # As counted in another way, order by order.
        self.assertEqual([len(all_full(Roll((order,)))) for order in ("abcd", "dacb", "zmkq")], [161, 161, 161])

    def test_full_rolls(self):
        for roll in (HILLS, FOUR, kept_calm("abcd", 4), kept_calm("mnop", 11)):
            self.assertEqual([each.orders for each in all_full(roll)], [roll.orders])

    def test_rolls_that_are_not_calm(self):
        for roll in (WHEEL, EVERY, Roll(orders_of("abcd")), Roll(("abcd", "bcad", "cabd"))):
            self.assertEqual(all_full(roll), ())

    def test_more_than_four_things(self):
        fives = (Roll(("abcde",)), LARGE[0], LARGE[1], Roll(orders_of("abcde", 48)))
        sixes = (Roll(("abcdef",)), LARGE[2], Roll(SIX[:48]))
        for many, rolls in ((5, fives), (6, sixes)):
            for roll in rolls:
                self.refused(TooMany, "given", many, all_full, roll)
                self.refused(TooMany, "given", many, all_full, roll=roll)

    def test_no_roll(self):
        self.refuses_no_rolls(all_full)


def keep(things, rules):
    """All orders of some things that keep all rules, by the definition."""
    found = orders_of(things)
    for three, thing, word in rules:
        found = [order for order in found if where(order, three, thing) != WORDS.index(word)]
    return tuple(found)


def drawn_rules(things, many, chosen):
    threes = [chosen.choice(threes_in(things)) for _ in range(many)]
    return tuple((three, chosen.choice(three), chosen.choice(WORDS)) for three in threes)


class KeptTest(Case):
    def told(self, things, rules):
        orders, found = keep(things, rules), kept(things, rules)
        if orders:
            self.assertIs(found.__class__, Roll)
            self.assertEqual(found.orders, orders)
        else:
            self.assertIs(found, None)
        self.assertEqual(kept(rules=rules, things=things), found)
        return found

    def test_as_the_definition_says(self):
        chosen = random.Random(2)
        for things, least, many in (("abc", 0, 12), ("bkz", 1, 60), ("abcd", 0, 6), ("adqy", 1, 8), ("abcde", 10, 20)):
            for _ in range(60):
                rules = drawn_rules(things, chosen.randint(least, many), chosen)
                if len(keep(things, rules)) <= 48:
                    self.told(things, rules)

    def test_six_things(self):
        self.assertEqual(len(self.told("abcdef", MIDDLES)), 45)
        peaks = tuple((three, three[1], "last") for three in threes_in("abcdef"))
        self.assertEqual(len(self.told("abcdef", peaks)), 32)
        self.assertTrue(is_full(kept("abcdef", peaks)))

    def test_each_rule_of_three_things(self):
        for things in ("abc", "mxz"):
            for thing in things:
                for word in WORDS:
                    self.assertEqual(len(self.told(things, ((things, thing, word),))), 4)

    def test_no_rules(self):
        self.assertEqual(kept("abc", ()), EVERY)
        self.assertEqual(kept("kmtz", ()).orders, orders_of("kmtz"))
        for things, many in (("abcde", 120), ("abcdef", 720)):
            with self.assertRaises(TooMany) as held:
                kept(things, ())
            self.assertEqual(held.exception.given, many)

    def test_no_such_order(self):
        for word in WORDS:
            self.assertIs(kept("abc", tuple(("abc", thing, word) for thing in "abc")), None)
            self.assertIs(kept("abcdef", tuple(("bdf", thing, word) for thing in "fbd")), None)
        self.assertIs(kept("abc", tuple(("abc", thing, word) for thing in "abc" for word in WORDS)), None)
        self.assertIs(kept("abcd", tuple(("abd", "d", word) for word in WORDS)), None)

    def test_rules_twice_and_in_another_order(self):
        chosen = random.Random(7)
        for things in ("abc", "abcd", "vwxyz"):
            for _ in range(20):
                rules = drawn_rules(things, 8, chosen)
                if len(keep(things, rules)) <= 48:
                    found = self.told(things, rules)
                    for others in (rules[::-1], rules * 2, rules * 7, (*rules[3:], *rules[:3]), tuple(sorted(rules))):
                        self.assertEqual(kept(things, others), found)

    def test_sixty_rules(self):
        rule = ("abc", "b", "last")
        self.assertEqual(kept("abc", (rule,) * 60), HILLS)
        for last in (rule, None, ("abc", "b", "least"), (), "abc", nested(9)):
            self.wrong("abc", (rule,) * 60 + (last,), 60)
            self.wrong("abc", (rule,) * 60 + (rule, last, rule), 60)
        self.wrong("abc", (rule,) * 59 + (None, rule), 59)
        self.wrong("abc", (None,) * 61, 0)

    def test_48_orders_and_more(self):
        forty_eight = (
            ("abcde", (("abd", "b", "first"), ("bce", "c", "first"))),
            ("abcdef", (("cde", "e", "first"), ("cdf", "c", "first"), ("bdf", "f", "last"), ("bef", "f", "first"))))
        for things, rules in forty_eight:
            self.assertEqual(len(self.told(things, rules)), 48)
        more = (
            ("abcde", (("ade", "a", "last"), ("abd", "d", "first"), ("cde", "c", "last")), 49),
            ("abcdef", (("ade", "d", "last"), ("bce", "c", "first"), ("cde", "c", "last"), ("bef", "e", "last")), 49),
            ("abcde", (("bcd", "d", "last"), ("abc", "a", "middle")), 50),
            ("abcde", (("abc", "a", "first"),), 80), ("uvwxyz", (("vxz", "z", "middle"),), 480))
        for things, rules, many in more:
            self.assertEqual(len(keep(things, rules)), many)
            for call in (lambda: kept(things, rules), lambda: kept(rules=rules, things=things)):
                with self.assertRaises(TooMany) as held:
                    call()
                self.assertEqual(held.exception.given, many)
                self.assertIs(held.exception.given.__class__, int)

    def wrong(self, things, rules, index):
        with self.subTest(rules=repr(rules)[:80]):
            self.refused(InvalidRules, "index", index, kept, things, rules)
            self.refused(InvalidRules, "index", index, kept, rules=rules, things=things)

    def test_no_things(self):
        for value in [*NO_ORDERS, "acb", "bac", "cba", "abdc", "zyx", "abcdfe", "abcc", "abcdefg"]:
            for rules in ((), None, (None,), (("abc", "b", "last"),) * 61):
                self.refused(InvalidThings, "given", value, kept, value, rules)
            self.refused(InvalidThings, "given", value, kept, rules=(), things=value)

    def test_no_tuple_of_rules(self):
        for value in [*NO_ORDERS, [("abc", "b", "last")], {("abc", "b", "last"): 1}, "abc", HILLS]:
            if not isinstance(value, tuple):
                self.wrong("abc", value, None)
                self.wrong("abcdef", value, None)

    def test_no_rule(self):
        right = ("abd", "b", "last")
        values = [
            *NO_ORDERS, "abd", "abd b last", ["abd", "b", "last"], ("abd", "b"), ("abd",), ("abd", "b", "last", "last"),
            ("abd", "b", "last", None), (right,), ("abd", "c", "last"), ("abd", "", "last"), ("abd", "ab", "last"),
            ("abd", "abd", "last"), ("abd", "e", "last"), ("abd", "B", "last"), ("abe", "b", "last"),
            ("bad", "b", "last"), ("adb", "b", "last"), ("ab", "b", "last"), ("abcd", "b", "last"), ("", "b", "last"),
            ("aab", "b", "last"), ("abd", "b", "Last"), ("abd", "b", "last "), ("abd", "b", ""), ("abd", "b", "least"),
            ("abd", "b", "las"), ("b", "abd", "last"), ("abd", "last", "b"), ("abd", "b", 2),
        ]
        for other in NO_STRINGS:
            values.extend([(other, "b", "last"), ("abd", other, "last"), ("abd", "b", other)])
        for value in values:
            self.wrong("abcd", (value,), 0)
            self.wrong("abcd", (right, right, value), 2)
            self.wrong("abcd", (right, value, None, right), 1)
        self.assertEqual(len(self.told("abcd", (right,))), 16)

    def test_rules_of_other_things(self):
        self.wrong("abc", (("abc", "a", "last"), ("abd", "a", "last")), 1)
        self.wrong("bcd", (("abc", "b", "last"),), 0)
        self.wrong("xyz", (("abc", "b", "last"),), 0)

    def test_wrong_rules_ahead_of_too_many_orders(self):
        self.wrong("abcdef", (("abc", "a", "last"), None), 1)
        self.wrong("abcde", [], None)
        self.wrong("abcdef", (("abc", "a", "last"),) * 61, 60)


class ChangesTest(Case):
    def test_what_is_told_is_changed_likewise(self):
        for roll in [*all_rolls("abc"), FOUR, SOME, SQUARE, *PARTS[60:110], *LARGE, *ROUGH[-2:]]:
            for change in CHANGES:
                other = changed(roll, change)
                self.assertEqual(wider(other), tuple(sorted(change(order) for order in wider(roll))))
                self.assertIs(is_full(other), is_full(roll))
                if is_calm(roll):
                    self.assertTrue(is_full(changed(full(roll), change)))

    def test_all_full(self):
        for roll in [*all_rolls("abc"), FOUR, SOME, SQUARE, *PARTS[40:60:5]]:
            for change in CHANGES:
                found = [each.orders for each in all_full(changed(roll, change))]
                self.assertEqual(found, sorted(changed(each, change).orders for each in all_full(roll)))

    def test_asked_again(self):
        for roll in [HILLS, FEW, FOUR, SOME, SQUARE, LARGE[2], *parts_of(LARGE[2], 5), WHEEL]:
            before = roll.orders
            for call in (wider, is_full):
                first = call(roll)
                self.assertEqual(call(roll), first)
                self.assertEqual(call(Roll.read("\n".join(before))), first)
            self.assertIs(roll.orders, before)


class ExamplesTest(Case):
    def test_of_the_document(self):
        self.assertEqual(
            [wider(FEW), wider(HILLS), is_full(FOUR), len(full(FEW)), [str(each).split("\n") for each in all_full(FEW)],
             len(all_full(Roll(("abc",))))],
            [("acb", "bac"), (), True, 4, [["abc", "acb", "bca", "cba"], ["abc", "bac", "bca", "cba"]], 6])
        rules = (("abc", "b", "last"), ("abd", "b", "last"), ("acd", "c", "last"), ("bcd", "c", "last"))
        self.assertEqual(
            [kept("abc", (("abc", "b", "last"),)) == HILLS,
             kept("abc", (("abc", "a", "first"), ("abc", "b", "first"), ("abc", "c", "first"))),
             kept("abcd", rules) == FOUR],
            [True, None, True])


if __name__ == "__main__":
    unittest.main()
