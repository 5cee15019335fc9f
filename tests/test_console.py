import unittest
from unittest.mock import ANY

from calmlists.console import Console
from calmlists.desks import Desk
from calmlists.errors import (
    Broken, InvalidCommand, InvalidNumber, InvalidOrder, InvalidPeople, InvalidThree, InvalidWish, NotARoll, NotCalm,
    NothingToUndo, TooFew, TooMany, UnknownOrder,
)
from calmlists.most import hull, is_closed, is_spoken
from calmlists.rolls import Roll
from calmlists.rows import is_row, row
from calmlists.threes import is_calm, places
from calmlists.widening import is_full, wider
from samples import EVERY, FEW, FOUR, HILLS, LARGE, SIX, SOME, SQUARE, WHEEL
from support import NO_ORDERS, NO_ROLLS, NO_STRINGS, Case, all_numbers, most, people_of, rounds, threes_in

ROLLS = [HILLS, FEW, WHEEL, EVERY, FOUR, SOME, SQUARE, LARGE[2], Roll(SIX[:48]), Roll(("zyx",)), Roll(("uvwxyz", "zyxwvu"))]
FORMS = (
    "put abc", "take abc", "undo", "lift 0", "promise calm", "promise closed", "promise spoken", "promise full",
    "promise holds abc", "promise lacks abc", "promise place abc b last", "promise few 4", "calm", "closed", "spoken",
    "full", "orders", "wider", "hull", "places abc", "row", "most 1 0 1", "round 1 0 1",
)
NO_COMMANDS = [
    *NO_STRINGS, *[(form,) for form in FORMS], *[[form] for form in FORMS], *[form.encode() for form in FORMS],
    "", " ", "  ", "\n", "abc", "do", "quit", "help", "ask calm", "Calm", "CALM", "cal", "calmer", "rough", "open", "unspoken",
    "promise", "put", "take", "lift", "places", "most", "round", "promise few", "promise holds", "promise lacks",
    "promise place", "promise place abc", "promise place abc b", "promise rough", "promise open", "promise orders",
    "promise undo", "promise few few", "promise holds lacks abc", "promise put abc", "most most", "round one",
    "put ", "take ", "lift ", "places ", "most ", "round ", "promise ", "promise holds ", "promise lacks ",
    "promise few ", "promise place  b last", "promise place abc  last", "promise place abc b ", "most 1  1", " put abc",
    "put abc bca", "take abc bca", "undo 1", "undo undo", "lift 0 0", "promise calm calm", "promise full 1",
    "promise holds abc bca", "promise place abc b last last", "promise few 4 4", "calm abc", "closed 1", "full full",
    "orders abc", "wider 1", "hull abc", "places abc abd", "places abc b", "row 1", "row row", "spoken calm",
    "put abcdefg", "take abcdefg", "put abcdefgh", "promise holds abcdefg", "promise lacks abcdefg", "places abcdefg",
    "promise place abcdefg b last", "promise place abc bbbbbbb last", "put ABC", "put aBc", "put ab1", "put 123", "put a-b",
    "put ab_", "take abC", "places ABC", "places 123", "promise place ABC A last", "promise holds 123", "put WORD",
    "promise place abc b best", "promise place abc b Last", "promise place abc b lasts", "promise place abc b WHERE",
    "promise place abc b a", "promise place abc last b", "promise place abc 1 last", "promise place 1 b last",
    "lift -1", "lift +1", "lift 00", "lift 01", "lift 1.0", "lift a", "lift N", "lift 123456789", "lift 1000000000",
    "lift 0x1", "lift 1_0", "lift 1e1", "promise few -1", "promise few 04", "promise few 123456789", "promise few abc",
    "promise few N", "promise few 4.", "most 1 0 -1", "most 01 0 1", "most 1 0 a", "most 1 0 123456789", "most a",
    "most 1,0,1", "most 1 0 1 x", "round 1 0 +1", "round 00 0 1", "round 1 0 000000001", "round N", "most NS", "round NS",
    "most x 0 1", "round 1 x 1", "put\nabc", "put\tabc", "calm\ncalm", "put abc;", "put 'abc'", "put \"abc\"", "put {abc}",
    "put `abc", "put abc~", "calm?", "!calm", "~", "a" * 4000, "most" + " 1" * 1000 + " ", "most  1" + " 1" * 1000,
    "most" + " 1" * 1000 + " 01",
]
for form in FORMS:
    NO_COMMANDS.extend([form + " ", " " + form, form + "\n", "\n" + form, form + "\t", form.upper(), form.title(), form + "."])
    if " " in form:
        NO_COMMANDS.extend([form.replace(" ", "  ", 1), form.replace(" ", "\n", 1), form.replace(" ", "_", 1)])
        NO_COMMANDS.extend([form.replace(" ", "", 1), "  ".join(form.rsplit(" ", 1)), "\n".join(form.rsplit(" ", 1))])


class ConsoleCase(Case):
    def now(self, console):
        desk = console.desk
        return desk.roll.orders, desk.promises, desk.changes

    def says(self, console, command, told):
        found = console.say(command)
        self.assertIs(found.__class__, str)
        self.assertEqual(found, told)

    def asked(self, console, command, told):
        """The answer is told, also with the command by its name, and nothing has changed."""
        before = self.now(console)
        self.says(console, command, told)
        self.assertEqual(console.say(command=command), told)
        self.assertEqual(self.now(console), before)

    def stays(self, console, command, error, **told):
        """The command raises exactly this error, and nothing has changed."""
        before = self.now(console)
        for call in (lambda: console.say(command), lambda: console.say(command=command)):
            with self.assertRaises(error) as held:
                call()
            self.assertIs(held.exception.__class__, error)
            for name, value in told.items():
                self.assertEqual(getattr(held.exception, name), value)
                self.assertIs(getattr(held.exception, name).__class__, value.__class__)
            self.assertEqual(self.now(console), before)


class NewTest(ConsoleCase):
    def test_its_desk(self):
        for roll in ROLLS:
            for console in (Console(roll), Console(roll=roll)):
                self.assertIs(console.desk.__class__, Desk)
                self.assertEqual(console.desk.roll, roll)
                self.assertEqual(self.now(console), (roll.orders, (), 0))
                self.assertIs(console.desk, console.desk)
                self.assertTrue(console)

    def test_what_is_done_at_its_desk(self):
        console = Console(FEW)
        desk = console.desk
        desk.put("bac")
        self.says(console, "orders", "abc bac bca cba")
        console.say("promise calm")
        self.assertEqual((desk.promises, desk.changes), ((("calm",),), 2))
        with self.assertRaises(KeyError):
            with desk.trial():
                console.say("take abc")
                raise KeyError
        self.says(console, "orders", "abc bac bca cba")

    def test_other_consoles_stay(self):
        one, other = Console(FEW), Console(FEW)
        one.say("put bac")
        self.says(other, "orders", "abc bca cba")
        for value in [other, *NO_ORDERS, FEW, ANY, one.desk]:
            self.assertIs(one == value, False)
            self.assertIs(one != value, True)

    def test_no_roll(self):
        for value in [*NO_ROLLS, Desk(HILLS), Console(HILLS)]:
            self.refused(NotARoll, "given", value, Console, value)
            self.refused(NotARoll, "given", value, Console, roll=value)


class DoneTest(ConsoleCase):
    def done(self, console, command, orders, promises, changes):
        self.says(console, command, "ok")
        self.assertEqual(self.now(console), (orders, promises, changes))

    def test_put_and_take(self):
        console = Console(FEW)
        self.done(console, "put bac", HILLS.orders, (), 1)
        self.done(console, "take cba", ("abc", "bac", "bca"), (), 2)
        self.done(console, "take abc", ("bac", "bca"), (), 3)
        six = Console(Roll(("uvwxyz",)))
        self.done(six, "put zyxwvu", ("uvwxyz", "zyxwvu"), (), 1)

    def test_promise_lift_and_undo(self):
        wishes = (
            ("promise calm", ("calm",)), ("promise closed", ("closed",)), ("promise spoken", ("spoken",)),
            ("promise full", ("full",)), ("promise holds abc", ("holds", "abc")), ("promise lacks acb", ("lacks", "acb")),
            ("promise lacks zyxwvu", ("lacks", "zyxwvu")), ("promise place abc b last", ("place", "abc", "b", "last")),
            ("promise few 4", ("few", 4)), ("promise few 48", ("few", 48)))
        console, held = Console(HILLS), ()
        for command, wish in wishes:
            held = (*held, wish)
            self.done(console, command, HILLS.orders, held, len(held))
        self.assertIs(console.desk.promises[8][1].__class__, int)
        self.done(console, "lift 9", HILLS.orders, held[:9], 11)
        self.done(console, "lift 0", HILLS.orders, held[1:9], 12)
        self.done(console, "undo", HILLS.orders, held[:9], 11)
        self.done(console, "undo", HILLS.orders, held, 10)
        for at in range(10):
            self.done(console, "undo", HILLS.orders, held[:9 - at], 9 - at)

    def test_each_word_of_places(self):
        for roll in (FEW, FOUR, Roll(("zyx",))):
            for three in threes_in(roll.things):
                for thing, word in places(roll, three):
                    console = Console(roll)
                    console.say(f"promise place {three} {thing} {word}")
                    self.assertEqual(console.desk.promises, (("place", three, thing, word),))

    def test_errors_of_the_desk(self):
        console = Console(FEW)
        self.stays(console, "undo", NothingToUndo)
        console.say("promise calm")
        told = (
            ("put a", InvalidOrder, "given", "a"), ("put ab", InvalidOrder, "given", "ab"),
            ("put aab", InvalidOrder, "given", "aab"), ("put abd", InvalidOrder, "given", "abd"),
            ("put abc", InvalidOrder, "given", "abc"), ("put calm", InvalidOrder, "given", "calm"),
            ("take zzzzzz", InvalidOrder, "given", "zzzzzz"), ("take abd", InvalidOrder, "given", "abd"),
            ("take bac", UnknownOrder, "given", "bac"), ("put cab", Broken, "index", 0),
            ("lift 1", InvalidNumber, "given", 1), ("lift 10", InvalidNumber, "given", 10),
            ("lift 99999999", InvalidNumber, "given", 99999999), ("promise full", Broken, "index", 1),
            ("promise holds ab", InvalidWish, "given", ("holds", "ab")), ("promise holds bac", Broken, "index", 1),
            ("promise lacks aab", InvalidWish, "given", ("lacks", "aab")), ("promise lacks abc", Broken, "index", 1),
            ("promise place cba b last", InvalidWish, "given", ("place", "cba", "b", "last")),
            ("promise place abc d last", InvalidWish, "given", ("place", "abc", "d", "last")),
            ("promise place abc ab last", InvalidWish, "given", ("place", "abc", "ab", "last")),
            ("promise place abcd b last", InvalidWish, "given", ("place", "abcd", "b", "last")),
            ("promise place abc a last", Broken, "index", 1), ("promise place abd a last", Broken, "index", 1),
            ("promise few 49", InvalidWish, "given", ("few", 49)), ("promise few 2", Broken, "index", 1),
            ("promise few 99999999", InvalidWish, "given", ("few", 99999999)), ("promise few 0", Broken, "index", 1))
        for command, error, name, value in told:
            self.stays(console, command, error, **{name: value})

    def test_too_many_and_too_few(self):
        console = Console(Roll(SIX[:47]))
        self.says(console, f"put {SIX[47]}", "ok")
        self.stays(console, f"put {SIX[48]}", TooMany, given=49)
        self.stays(Console(Roll(("abc",))), "take abc", TooFew, given=0)


class AskedTest(ConsoleCase):
    def test_yes_or_no(self):
        for roll in ROLLS:
            for word, call in (("calm", is_calm), ("closed", is_closed), ("spoken", is_spoken), ("full", is_full)):
                self.asked(Console(roll), word, "yes" if call(roll) else "no")

    def test_orders_and_wider(self):
        for roll in ROLLS:
            self.asked(Console(roll), "orders", " ".join(roll.orders))
            self.asked(Console(roll), "wider", " ".join(wider(roll)))
        self.asked(Console(HILLS), "wider", "")
        self.asked(Console(WHEEL), "wider", "")

    def test_hull(self):
        for roll in ROLLS:
            if is_calm(roll):
                self.asked(Console(roll), "hull", " ".join(hull(roll).orders))
            else:
                self.stays(Console(roll), "hull", NotCalm, given="\n".join(roll.orders))
        self.asked(Console(SOME), "hull", "abcd bcad bcda cbad")

    def test_places(self):
        for roll in ROLLS:
            for three in threes_in(roll.things):
                told = ", ".join(" ".join(place) for place in places(roll, three))
                self.asked(Console(roll), f"places {three}", told)
        self.asked(Console(WHEEL), "places abc", "")
        self.asked(Console(HILLS), "places abc", "b last")
        self.asked(Console(FEW), "places abc", "a middle, b last")
        for word in ("a", "ab", "cba", "abd", "abcd", "abcdef", "calm", "aaa"):
            self.stays(Console(HILLS), f"places {word}", InvalidThree, given=word)

    def test_row(self):
        for roll in ROLLS:
            if row(roll) is None:
                self.asked(Console(roll), "row", "none")
            else:
                self.asked(Console(roll), "row", " ".join(row(roll)))
                self.assertTrue(is_row(roll, tuple(Console(roll).say("row").split(" "))))

    def test_most_and_round(self):
        for roll in (HILLS, FEW, WHEEL, EVERY, SOME, Roll(("zyx",))):
            console = Console(roll)
            for numbers in all_numbers(len(roll), 3):
                people, words = people_of(roll.orders, numbers), " ".join(str(number) for number in numbers)
                self.asked(console, f"most {words}", most(people) or "none")
                self.asked(console, f"round {words}", "yes" if rounds(people) else "no")

    def test_numbers_of_up_to_eight_digits(self):
        self.asked(Console(WHEEL), "most 99999999 99999999 99999999", "none")
        self.asked(Console(WHEEL), "round 99999999 99999999 99999999", "yes")
        self.asked(Console(WHEEL), "most 99999999 10000000 10", "abc")
        self.asked(Console(HILLS), "most 10000000 0 0 10000001", "cba")
        self.asked(Console(Roll(SIX[:48])), "most 12345678" + " 0" * 47, SIX[0])
        self.asked(Console(Roll(SIX[:48])), "round" + " 0" * 47 + " 1", "no")

    def test_numbers_of_no_crowd(self):
        for word in ("most", "round"):
            console = Console(FEW)
            self.stays(console, f"{word} 1", InvalidPeople, index=1)
            self.stays(console, f"{word} 1 0", InvalidPeople, index=2)
            self.stays(console, f"{word} 0 0", InvalidPeople, index=2)
            self.stays(console, f"{word} 1 0 1 0", InvalidPeople, index=3)
            self.stays(console, f"{word} 1 0 1 0 0", InvalidPeople, index=3)
            self.stays(console, f"{word} 0 0 0", InvalidPeople, index=None)
            self.stays(console, word + " 1" * 1900, InvalidPeople, index=3)

    def test_behind_changes(self):
        console = Console(FEW)
        for command in ("put bac", "promise full", "lift 0", "put cab", "take bac"):
            console.say(command)
        self.asked(console, "orders", "abc bca cab cba")
        self.asked(console, "calm", "no")
        self.asked(console, "most 1 1 1 0", "none")
        self.asked(console, "round 1 1 1 0", "yes")
        for _ in range(3):
            console.say("undo")
        self.asked(console, "orders", "abc bac bca cba")
        self.asked(console, "full", "yes")
        self.stays(console, "put cab", Broken, index=0)


class WrongTest(ConsoleCase):
    def test_lines_that_are_no_form(self):
        console = Console(FEW)
        console.say("promise calm")
        for value in NO_COMMANDS:
            before = self.now(console)
            with self.subTest(value=repr(value)[:80]):
                self.refused(InvalidCommand, "given", value, console.say, value)
                self.refused(InvalidCommand, "given", value, console.say, command=value)
            self.assertEqual(self.now(console), before)

    def test_each_form_is_one(self):
        for form in FORMS:
            console = Console(FEW)
            try:
                self.assertIs(console.say(form).__class__, str)
            except (InvalidOrder, Broken, InvalidNumber, NothingToUndo):
                self.assertIn(form, ("put abc", "undo", "lift 0", "promise full", "promise lacks abc"))

    def test_other_forms_of_numbers(self):
        console = Console(HILLS)
        self.says(console, "promise few 10", "ok")
        self.says(console, "lift 0", "ok")
        self.stays(console, "lift 0", InvalidNumber, given=0)
        self.stays(console, "lift 10203040", InvalidNumber, given=10203040)
        self.stays(console, "lift 010", InvalidCommand, given="lift 010")


class ExamplesTest(ConsoleCase):
    def test_of_the_document(self):
        console = Console(FEW)
        self.assertEqual(
            [console.say("calm"), console.say("wider"), console.say("places abc"), console.say("promise calm"),
             console.say("put bac"), console.say("full"), console.say("places abc"), console.say("most 2 0 1 2")],
            ["yes", "acb bac", "a middle, b last", "ok", "ok", "yes", "b last", "bca"])
        self.assertEqual(
            [console.say("round 1 0 0 1"), console.say("hull"), console.say("undo"), console.say("orders"),
             console.say("spoken"), console.say("most 1 0 1"), console.say("row") in ("abc bca cba", "cba bca abc")],
            ["no", "abc bac bca cba", "ok", "abc bca cba", "yes", "none", True])
        self.stays(console, "put cab", Broken, index=0)


if __name__ == "__main__":
    unittest.main()
