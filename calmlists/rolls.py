"""Rolls: ascending tuples of orders of the same things."""

from itertools import permutations

from calmlists.errors import InvalidOrder, InvalidOrders, InvalidText, NotARoll, TooFew, TooMany, UnknownOrder
from calmlists.limits import LEAST_THINGS, MOST_ORDERS, MOST_THINGS


def is_order(value):
    """Whether a value is an order of any three to six things."""
    if not isinstance(value, str) or not LEAST_THINGS <= len(value) <= MOST_THINGS:
        return False
    return len(set(value)) == len(value) and all(["a" <= letter <= "z" for letter in value])


def things_of(order):
    """The things of an order, as an ascending string."""
    return "".join(sorted(order))


def is_order_of(things, value):
    """Whether a value is an order of these things."""
    return is_order(value) and things_of(value) == things


def all_orders(things):
    """The ascending list of all orders of some ascending things."""
    return ["".join(each) for each in permutations(things)]


def right_ahead(orders):
    """How many orders of a tuple stand ahead of the first thing wrong with it as a roll; all, if nothing is."""
    for index, order in enumerate(orders):
        if index == MOST_ORDERS or not is_order(order):
            return index
        if things_of(order) != things_of(orders[0]):
            return index
        if index > 0 and order <= orders[index - 1]:
            return index
    return len(orders)


class Roll:
    """A roll of orders. It never changes: what changes it makes another roll."""

    def __init__(self, orders):
        if not isinstance(orders, tuple) or len(orders) == 0:
            raise InvalidOrders(None)
        right = right_ahead(orders)
        if right < len(orders):
            raise InvalidOrders(right)
        self._orders = orders
        self._things = things_of(orders[0])

    @classmethod
    def read(cls, text):
        """The roll with this text."""
        if not isinstance(text, str):
            raise InvalidText(text)
        orders = tuple(text.split("\n"))
        if right_ahead(orders) < len(orders):
            raise InvalidText(text)
        return cls(orders)

    @property
    def orders(self):
        """The ascending tuple of the orders."""
        return self._orders

    @property
    def things(self):
        """The things, as an ascending string."""
        return self._things

    def __len__(self):
        return len(self._orders)

    def __str__(self):
        return "\n".join(self._orders)

    def __contains__(self, x):
        # A value of another class may call itself equal to everything.
        return isinstance(x, str) and x in self._orders

    def __eq__(self, other):
        return isinstance(other, Roll) and self._orders == other._orders

    def more(self, order):
        """The roll with one order more."""
        if not is_order_of(self._things, order) or order in self._orders:
            raise InvalidOrder(order)
        if len(self._orders) == MOST_ORDERS:
            raise TooMany(MOST_ORDERS + 1)
        return Roll(tuple(sorted([*self._orders, order])))

    def without(self, order):
        """The roll without one of its orders."""
        check_order_in(self, order)
        if len(self._orders) == 1:
            raise TooFew(0)
        return Roll(tuple([each for each in self._orders if each != order]))


def check_roll(roll):
    """Refuses what is no roll."""
    if not isinstance(roll, Roll):
        raise NotARoll(roll)


def check_order_in(roll, order):
    """Refuses what is no order of the roll's things, then what is no order of the roll."""
    if not is_order_of(roll.things, order):
        raise InvalidOrder(order)
    if order not in roll:
        raise UnknownOrder(order)
