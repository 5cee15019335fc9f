"""What the tests of desks share."""

from calmlists.desks import Desk
from calmlists.rolls import Roll
from samples import HILLS
from support import Case


class DeskCase(Case):
    def shows(self, desk, orders, promises, changes):
        self.assertIs(desk.roll.__class__, Roll)
        self.assertEqual(desk.roll.orders, orders)
        self.assertIs(desk.promises.__class__, tuple)
        self.assertEqual(desk.promises, promises)
        self.assertIs(desk.changes.__class__, int)
        self.assertEqual(desk.changes, changes)

    def now(self, desk):
        return desk.roll.orders, desk.promises, desk.changes

    def stays(self, desk, error, attribute, value, call, *values, **named):
        """The call raises exactly this error, and nothing has changed."""
        before = self.now(desk)
        with self.assertRaises(error) as held:
            call(*values, **named)
        self.assertIs(held.exception.__class__, error)
        if attribute == "given":
            self.assertIs(held.exception.given, value)
        elif attribute is not None:
            self.assertEqual(getattr(held.exception, attribute), value)
            self.assertIs(getattr(held.exception, attribute).__class__, int)
        self.shows(desk, *before)

    def promised(self):
        desk = Desk(HILLS)
        desk.promise(("few", 4))
        return desk
