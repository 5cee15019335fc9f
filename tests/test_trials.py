import unittest

from calmlists.desks import Desk
from calmlists.errors import Broken, InvalidNumber, InvalidOrder, InvalidWish, NotPossible, UnknownOrder
from desk_case import DeskCase
from samples import FEW, HILLS


class Stop(Exception):
    pass


class TrialTest(DeskCase):
    def begun(self):
        desk = Desk(FEW)
        desk.promise(("calm",))
        desk.put("bac")
        return desk

    def meddle(self, desk):
        desk.take("abc")
        desk.lift(0)
        desk.undo()
        desk.undo()
        desk.undo()
        desk.undo()
        desk.promise(("few", 6))
        desk.put("cab")

    def test_rows_that_end_well(self):
        desk = self.begun()
        with desk.trial() as held:
            self.assertIs(held, desk)
            held.take("abc")
            desk.promise(("few", 3))
        self.shows(desk, ("bac", "bca", "cba"), (("calm",), ("few", 3)), 4)
        desk.undo()
        desk.undo()
        self.shows(desk, HILLS.orders, (("calm",),), 2)

    def test_rows_without_changes(self):
        desk = self.begun()
        with desk.trial():
            pass
        self.shows(desk, HILLS.orders, (("calm",),), 2)

    def test_rows_that_end_with_an_exception(self):
        for error in (Stop(), KeyError("a"), KeyboardInterrupt(), GeneratorExit(), StopIteration(), Broken(3)):
            desk = self.begun()
            with self.assertRaises(error.__class__) as caught:
                with desk.trial() as held:
                    self.meddle(held)
                    self.shows(held, ("abc", "bca", "cab", "cba"), (("few", 6),), 2)
                    raise error
            self.assertIs(caught.exception, error)
            self.shows(desk, HILLS.orders, (("calm",),), 2)
            desk.undo()
            self.shows(desk, FEW.orders, (("calm",),), 1)
            desk.undo()
            self.shows(desk, FEW.orders, (), 0)

    def test_rows_that_end_with_an_error_of_the_desk(self):
        calls = (
            (Broken, lambda desk: desk.put("cab")), (InvalidOrder, lambda desk: desk.put("ab")),
            (UnknownOrder, lambda desk: desk.take("acb")), (InvalidWish, lambda desk: desk.promise("calm")),
            (InvalidNumber, lambda desk: desk.lift(True)))
        for error, call in calls:
            desk = self.begun()
            with self.assertRaises(error):
                with desk.trial():
                    desk.take("bac")
                    desk.take("abc")
                    desk.undo()
                    desk.put("bac")
                    desk.promise(("few", 9))
                    call(desk)
            self.shows(desk, HILLS.orders, (("calm",),), 2)

    def test_an_error_that_is_caught_within_the_rows(self):
        desk = self.begun()
        with desk.trial():
            desk.take("bac")
            try:
                desk.put("cab")
            except Broken:
                desk.put("acb")
        self.shows(desk, ("abc", "acb", "bca", "cba"), (("calm",),), 4)

    def test_rows_that_are_left(self):
        desk = self.begun()

        def left():
            with desk.trial():
                desk.take("bac")
                return desk.changes

        self.assertEqual(left(), 3)
        for _ in range(2):
            with desk.trial():
                desk.take("abc" if "abc" in desk.roll else "cba")
                continue
        self.shows(desk, ("bca",), (("calm",),), 5)

    def test_a_call_alone_changes_nothing(self):
        desk = self.begun()
        trial = desk.trial()
        self.shows(desk, HILLS.orders, (("calm",),), 2)
        desk.take("bac")
        self.shows(desk, FEW.orders, (("calm",),), 3)
        # The rows begin here, not where the trial was called.
        with self.assertRaises(Stop):
            with trial:
                desk.take("abc")
                raise Stop
        self.shows(desk, FEW.orders, (("calm",),), 3)

    def test_the_same_one_again(self):
        desk = self.begun()
        trial = desk.trial()
        with trial as held:
            self.assertIs(held, desk)
            desk.take("bac")
        with self.assertRaises(Stop):
            with trial:
                desk.take("abc")
                raise Stop
        self.shows(desk, FEW.orders, (("calm",),), 3)
        with self.assertRaises(Stop):
            with trial:
                desk.take("abc")
                with trial:
                    desk.put("bac")
                try:
                    with trial:
                        desk.take("bca")
                        raise Stop
                except Stop:
                    self.shows(desk, ("bac", "bca", "cba"), (("calm",),), 5)
                raise Stop
        self.shows(desk, FEW.orders, (("calm",),), 3)

    def test_trials_within_trials(self):
        desk = self.begun()
        with self.assertRaises(Stop):
            with desk.trial():
                desk.take("bac")
                with desk.trial() as held:
                    held.take("abc")
                self.shows(desk, ("bca", "cba"), (("calm",),), 4)
                raise Stop
        self.shows(desk, HILLS.orders, (("calm",),), 2)
        with self.assertRaises(Stop):
            with desk.trial(), desk.trial():
                desk.take("bac")
                with desk.trial():
                    desk.take("abc")
                    raise Stop
        self.shows(desk, HILLS.orders, (("calm",),), 2)

    def test_an_error_of_an_inner_one_that_is_caught(self):
        desk = self.begun()
        with desk.trial():
            desk.take("bac")
            try:
                with desk.trial():
                    desk.undo()
                    self.meddle(desk)
                    raise Stop
            except Stop:
                self.shows(desk, FEW.orders, (("calm",),), 3)
            desk.promise(("few", 3))
        self.shows(desk, FEW.orders, (("calm",), ("few", 3)), 4)

    def test_other_desks_stay(self):
        one, other = self.begun(), self.begun()
        with self.assertRaises(Stop):
            with one.trial():
                with other.trial():
                    one.take("bac")
                    other.take("abc")
                other.take("bac")
                raise Stop
        self.shows(one, HILLS.orders, (("calm",),), 2)
        self.shows(other, ("bca", "cba"), (("calm",),), 4)


class TriedTest(DeskCase):
    def test_what_it_returns(self):
        desk = Desk(FEW)
        for value in (None, 0, "abc", (), [1], desk):
            self.assertIs(desk.tried(lambda held: value), value)
        self.assertIs(desk.tried(lambda held: held), desk)
        self.assertIs(desk.tried(action=lambda held: held.put("bac")), None)
        self.shows(desk, HILLS.orders, (), 1)
        self.assertEqual(desk.tried(Desk.changes.fget), 1)

    def test_what_it_passes_on(self):
        desk = Desk(FEW)
        desk.put("bac")
        error = Stop()

        def action(held):
            self.assertIs(held, desk)
            held.undo()
            held.promise(("few", 3))
            held.take("abc")
            raise error

        with self.assertRaises(Stop) as caught:
            desk.tried(action)
        self.assertIs(caught.exception, error)
        self.shows(desk, HILLS.orders, (), 1)
        with self.assertRaises(Stop):
            desk.tried(action=action)
        self.shows(desk, HILLS.orders, (), 1)

    def test_errors_of_the_package(self):
        desk = Desk(FEW)
        desk.promise(("calm",))

        def action(held):
            held.put("bac")
            held.put("cab")

        self.stays(desk, Broken, "index", 0, desk.tried, action)
        self.assertRaises(NotPossible, desk.tried, action)
        self.shows(desk, FEW.orders, (("calm",),), 1)

    def test_within_one_another(self):
        desk = Desk(FEW)

        def inner(held):
            held.take("abc")
            raise Stop

        def outer(held):
            held.put("bac")
            try:
                held.tried(inner)
            except Stop:
                return held.roll.orders
            return None

        self.assertEqual(desk.tried(outer), HILLS.orders)
        self.shows(desk, HILLS.orders, (), 1)

        def last(held):
            held.tried(lambda each: each.take("bac"))
            held.tried(inner)

        with self.assertRaises(Stop):
            desk.tried(last)
        self.shows(desk, HILLS.orders, (), 1)


if __name__ == "__main__":
    unittest.main()
