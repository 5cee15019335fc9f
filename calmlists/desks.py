"""Desks: a roll that is changed, with promises that hold after each change."""

from calmlists.crowds import is_number
from calmlists.errors import Broken, InvalidNumber, InvalidWish, NothingToUndo
from calmlists.limits import MOST_ORDERS
from calmlists.most import is_closed, is_spoken
from calmlists.rolls import check_roll, is_order
from calmlists.threes import is_calm, places, threes_of
from calmlists.widening import is_full, is_rule


def is_wish(value):
    """Whether a value is a wish for a roll."""
    if not isinstance(value, tuple) or len(value) == 0 or not isinstance(value[0], str):
        return False
    word = value[0]
    if len(value) == 1:
        return word in ("calm", "closed", "spoken", "full")
    told = value[1]
    if len(value) == 2 and word == "few":
        return is_number(told) and 0 <= told <= MOST_ORDERS
    if len(value) == 2:
        return word in ("holds", "lacks") and is_order(told)
    # A string is one of all three of its own letters only if it is just these, ascending.
    return word == "place" and is_order(told) and is_rule(told, value[1:])


def has_place(roll, three, place):
    """Whether three letters are things of a roll, and it has this place for them."""
    return three in threes_of(roll.things) and place in places(roll, three)


def keeps(roll, wish):
    """Whether a roll is as a wish says."""
    word = wish[0]
    if word == "calm":
        return is_calm(roll)
    if word == "closed":
        return is_closed(roll)
    if word == "spoken":
        return is_spoken(roll)
    if word == "full":
        return is_full(roll)
    if word == "holds":
        return wish[1] in roll
    if word == "lacks":
        return wish[1] not in roll
    if word == "few":
        return len(roll) <= wish[1]
    return has_place(roll, wish[1], wish[2:])


class Beginning:
    """What a desk was when the rows of a trial began, and the beginning of the rows around them, if there are any."""

    def __init__(self, states, around):
        self.states = states
        self.around = around


class Trial:
    """For a `with` statement: if its rows end with an exception, a desk is as it was when they began."""

    def __init__(self, desk):
        self._desk = desk
        # The rows of one trial may stand within its own rows, too.
        self._begun = None

    def __enter__(self):
        self._begun = Beginning(self._desk._states, self._begun)
        return self._desk

    def __exit__(self, kind, value, trace):
        desk = self._desk
        if kind is not None:
            desk._states = self._begun.states
        self._begun = self._begun.around


class Desk:
    """A roll that is changed, with promises."""

    def __init__(self, roll):
        check_roll(roll)
        # The roll and the promises, as they were at first and behind each change that can be taken back.
        self._states = ((roll, ()),)

    def __eq__(self, other):
        return self is other

    @property
    def roll(self):
        """The roll as it is now."""
        return self._states[-1][0]

    @property
    def promises(self):
        """The tuple of the promises."""
        return self._states[-1][1]

    @property
    def changes(self):
        """How many changes can be taken back."""
        return len(self._states) - 1

    def put(self, order):
        """Puts in an order."""
        self._exchange(self.roll.more(order))

    def take(self, order):
        """Takes out an order."""
        self._exchange(self.roll.without(order))

    def promise(self, wish):
        """Promises that a wish holds from now on."""
        if not is_wish(wish):
            raise InvalidWish(wish)
        if not keeps(self.roll, wish):
            raise Broken(len(self.promises))
        self._change(self.roll, (*self.promises, wish))

    def lift(self, index):
        """Takes away a promise."""
        if not is_number(index) or not 0 <= index < len(self.promises):
            raise InvalidNumber(index)
        self._change(self.roll, self.promises[:index] + self.promises[index + 1:])

    def undo(self):
        """Takes back the last change that has not been taken back."""
        if self.changes == 0:
            raise NothingToUndo()
        self._states = self._states[:-1]

    def trial(self):
        """For a `with` statement, whose rows change nothing if they end with an exception."""
        return Trial(self)

    def tried(self, action):
        """What a function returns that is called with the desk within a trial."""
        with self.trial() as desk:
            return action(desk)

    def _exchange(self, roll):
        """Takes another roll for the one that is here, if all promises hold of it."""
        for index, wish in enumerate(self.promises):
            if not keeps(roll, wish):
                raise Broken(index)
        self._change(roll, self.promises)

    def _change(self, roll, promises):
        """A change more."""
        self._states = (*self._states, (roll, promises))
