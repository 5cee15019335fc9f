import unittest

from calmlists import errors
from calmlists.errors import (
    Broken, InvalidCommand, InvalidNumber, InvalidOrder, InvalidOrders, InvalidPeople, InvalidRules, InvalidText,
    InvalidThings, InvalidThree, InvalidWish, NotACrowd, NotARoll, NotCalm, NothingToUndo, NotPossible, TooFew, TooMany,
    UnknownOrder, UnknownThing, WrongName, WrongValue,
)
from support import NO_ORDERS

BASES = ((WrongValue, ValueError), (WrongName, LookupError), (NotPossible, ArithmeticError))
LISTED = (
    (WrongValue, "given", (
        InvalidText, InvalidOrder, InvalidThree, InvalidThings, InvalidNumber, InvalidWish, InvalidCommand, NotARoll,
        NotACrowd)),
    (WrongValue, "index", (InvalidOrders, InvalidPeople, InvalidRules)),
    (WrongName, "given", (UnknownThing, UnknownOrder)),
    (NotPossible, "given", (TooMany, TooFew, NotCalm)),
    (NotPossible, "index", (Broken,)),
)
WITH_ATTRIBUTE = [(made, base, name) for base, name, classes in LISTED for made in classes]


class ErrorsTest(unittest.TestCase):
    def test_made_by_position_with_any_value(self):
        for made, _, name in WITH_ATTRIBUTE:
            for value in NO_ORDERS:
                with self.subTest(made=made.__name__):
                    self.assertIs(getattr(made(value), name), value)

    def test_made_by_name_with_any_value(self):
        for made, _, name in WITH_ATTRIBUTE:
            for value in NO_ORDERS:
                with self.subTest(made=made.__name__):
                    self.assertIs(getattr(made(**{name: value}), name), value)

    def test_has_the_one_attribute_and_not_the_other(self):
        other = {"given": "index", "index": "given"}
        for made, _, name in WITH_ATTRIBUTE:
            with self.subTest(made=made.__name__):
                self.assertFalse(hasattr(made(7), other[name]))
                with self.assertRaises(TypeError):
                    made(**{other[name]: 7})
                with self.assertRaises(TypeError):
                    made()
                with self.assertRaises(TypeError):
                    made(1, 2)

    def test_made_of_nothing(self):
        for made in (WrongValue, WrongName, NotPossible, NothingToUndo):
            with self.subTest(made=made.__name__):
                error = made()
                self.assertIs(error.__class__, made)
                self.assertFalse(hasattr(error, "given"))
                self.assertFalse(hasattr(error, "index"))

    def test_each_under_its_base_class_and_under_no_other(self):
        behind = dict(BASES)
        for made, base, _ in [*WITH_ATTRIBUTE, (NothingToUndo, NotPossible, None)]:
            with self.subTest(made=made.__name__):
                self.assertEqual(made.__mro__, (made, base, *behind[base].__mro__))

    def test_base_classes_under_the_classes_of_the_language(self):
        for base, behind in BASES:
            with self.subTest(base=base.__name__):
                self.assertEqual(base.__mro__, (base, *behind.__mro__))

    def test_caught_by_base_class_and_by_the_class_of_the_language(self):
        behind = dict(BASES)
        for made, base, name in WITH_ATTRIBUTE:
            for caught in (made, base, behind[base]):
                with self.subTest(made=made.__name__, caught=caught.__name__):
                    with self.assertRaises(caught) as held:
                        raise made(5)
                    self.assertEqual(getattr(held.exception, name), 5)
        for caught in (NothingToUndo, NotPossible, ArithmeticError):
            with self.assertRaises(caught):
                raise NothingToUndo()

    def test_there_are_these_classes_and_no_others(self):
        listed = {made for made, _, _ in WITH_ATTRIBUTE} | {base for base, _ in BASES} | {NothingToUndo}
        self.assertEqual(len(listed), 22)
        found = {value for name, value in vars(errors).items() if not name.startswith("_")}
        self.assertEqual(found, listed)

    def test_true_and_equal_to_nothing_else(self):
        for made, _, _ in WITH_ATTRIBUTE:
            with self.subTest(made=made.__name__):
                error, same = made(0), made(0)
                self.assertTrue(error)
                self.assertTrue(error == error)
                self.assertFalse(error == same)
                self.assertTrue(error != same)
                self.assertFalse(error == 0)

    def test_made_alike_by_position_and_by_name(self):
        for made, _, name in WITH_ATTRIBUTE:
            with self.subTest(made=made.__name__):
                self.assertEqual(str(made("x")), str(made(**{name: "x"})))
                self.assertEqual(vars(made("x")), vars(made(**{name: "x"})))


if __name__ == "__main__":
    unittest.main()
