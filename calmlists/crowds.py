"""Crowds: how many people have each order of a roll, and what the most of them say."""

from itertools import permutations

from calmlists.errors import InvalidNumber, InvalidPeople, NotACrowd, UnknownThing
from calmlists.rolls import check_order_in, check_roll


def is_number(value):
    """Whether a value is an integer; True and False are none here."""
    return isinstance(value, int) and not isinstance(value, bool)


def right_numbers(numbers, many):
    """How many elements stand ahead of the first one that is no number of people or one too many."""
    for index, number in enumerate(numbers):
        if index == many or not is_number(number) or number < 0:
            return index
    return len(numbers)


def check_thing(things, thing):
    """Refuses what is no thing of these."""
    if not isinstance(thing, str) or len(thing) != 1 or thing not in things:
        raise UnknownThing(thing)


def round_among(things, beaten):
    """A round of some things, each of which beats those told; None if there is none."""
    for many in range(3, len(things) + 1):
        for each in permutations(things, many):
            # The one ahead of the first one, at -1, is the last one.
            if all([each[at] in beaten[each[at - 1]] for at in range(many)]):
                return "".join(each)
    return None


def goes_against_none(order, beaten):
    """Whether in an order whatever beats another thing stands above it."""
    return all([other not in beaten[thing] for at, thing in enumerate(order) for other in order[:at]])


class Crowd:
    """So many people with each order of a roll. A crowd never changes: `joined` makes another one."""

    def __init__(self, roll, numbers):
        check_roll(roll)
        if not isinstance(numbers, tuple):
            raise InvalidPeople(None)
        right = right_numbers(numbers, len(roll))
        if right < len(numbers) or right < len(roll):
            raise InvalidPeople(right)
        if sum(numbers) == 0:
            raise InvalidPeople(None)
        self._roll = roll
        self._numbers = numbers
        self._people = sum(numbers)

    @property
    def roll(self):
        """The roll of the orders that people may have."""
        return self._roll

    @property
    def numbers(self):
        """How many people have each order of the roll."""
        return self._numbers

    @property
    def people(self):
        """How many people there are."""
        return self._people

    def __eq__(self, other):
        return isinstance(other, Crowd) and self._roll == other._roll and self._numbers == other._numbers

    def above(self, thing, other):
        """How many people put a thing above another one."""
        check_thing(self._roll.things, thing)
        check_thing(self._roll.things, other)
        return self._above(thing, other)

    def beats(self, thing, other):
        """Whether more people put a thing above another one than below."""
        check_thing(self._roll.things, thing)
        check_thing(self._roll.things, other)
        return self._above(thing, other) > self._above(other, thing)

    def some_round(self):
        """A round of the crowd; None if there is none."""
        return round_among(self._roll.things, self._beaten())

    def winner(self):
        """The thing that beats all others; None if there is none."""
        beaten = self._beaten()
        for thing in beaten:
            if len(beaten[thing]) == len(beaten) - 1:
                return thing
        return None

    def ties(self):
        """The ascending tuple of all pairs of things, the lesser one ahead, neither of which beats the other."""
        beaten = self._beaten()
        pairs = [(a, b) for a in beaten for b in beaten if a < b]
        return tuple([(a, b) for a, b in pairs if b not in beaten[a] and a not in beaten[b]])

    def order(self):
        """The order of the most; None if there is a round or a tie."""
        beaten = self._beaten()
        ranked = sorted(list(beaten), key=lambda each: len(beaten[each]), reverse=True)
        for at, thing in enumerate(ranked):
            if not all([other in beaten[thing] for other in ranked[at + 1:]]):
                return None
        return "".join(ranked)

    def agreeing(self):
        """The ascending tuple of the roll's orders that go against no majority."""
        beaten = self._beaten()
        return tuple([order for order in self._roll.orders if goes_against_none(order, beaten)])

    def joined(self, order, many):
        """The crowd with so many people more with an order, or fewer."""
        check_order_in(self._roll, order)
        if not is_number(many):
            raise InvalidNumber(many)
        at = self._roll.orders.index(order)
        number = self._numbers[at] + many
        if number < 0 or self._people + many == 0:
            raise InvalidNumber(many)
        return Crowd(self._roll, (*self._numbers[:at], number, *self._numbers[at + 1:]))

    def _above(self, thing, other):
        """How many people put a thing of the roll above another one."""
        return sum([
            number for order, number in zip(self._roll.orders, self._numbers)
            if order.index(thing) < order.index(other)])

    def _beaten(self):
        """The things that each thing of the roll beats, as a string."""
        things = self._roll.things
        return {thing: "".join([other for other in things if self.beats(thing, other)]) for thing in things}


def check_crowd(crowd):
    """Refuses what is no crowd."""
    if not isinstance(crowd, Crowd):
        raise NotACrowd(crowd)
