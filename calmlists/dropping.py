"""The fewest orders without which a roll is calm."""

from itertools import combinations

from calmlists.errors import TooMany
from calmlists.limits import MOST_OUT
from calmlists.rolls import Roll, check_roll
from calmlists.threes import is_calm


def breaks_all(out, wheels):
    """Whether of each wheel an order is left out."""
    for wheel in wheels:
        if all([order not in out for order in wheel]):
            return False
    return True


def ways_out(orders, wheels, many):
    """All so many ones of some ascending orders without which no wheel is whole, ascending."""
    return [out for out in combinations(orders, many) if breaks_all(out, wheels)]


def least_out(roll):
    """The ascending tuple of all as few orders as can be without which a roll is calm."""
    check_roll(roll)
    if len(roll) > MOST_OUT:
        raise TooMany(len(roll))
    orders = list(roll.orders)
    wheels = [three for three in combinations(orders, 3) if not is_calm(Roll(three))]
    many = 0
    found = ways_out(orders, wheels, many)
    while len(found) == 0:
        many += 1
        found = ways_out(orders, wheels, many)
    return tuple(found)
