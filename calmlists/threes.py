"""Three things at a time: how they stand in the orders of a roll, and what this tells of the roll."""

from calmlists.errors import InvalidOrder, InvalidThree
from calmlists.rolls import check_roll, is_order, things_of

# The words ascend, so that places do, too.
POSITIONS = {"first": 0, "last": 2, "middle": 1}


def threes_of(things):
    """The ascending tuple of all three of some ascending things."""
    return tuple([a + b + c for a in things for b in things for c in things if a < b < c])


def check_three(things, three):
    """Refuses what is no ascending string of three of the things."""
    if not isinstance(three, str) or three not in threes_of(things):
        raise InvalidThree(three)


def standing(order, three):
    """Three things as they stand in an order."""
    return "".join([thing for thing in order if thing in three])


def wheels_upon(three):
    """The two wheels upon three things."""
    a, b, c = three
    return (a + b + c, b + c + a, c + a + b), (c + b + a, a + c + b, b + a + c)


def wheel_among(orders, three):
    """Three of some orders that are a wheel for three things, ascending; None if there are none."""
    found = {}
    for order in orders:
        found.setdefault(standing(order, three), order)
    for wheel in wheels_upon(three):
        if all([each in found for each in wheel]):
            return tuple(sorted([found[each] for each in wheel]))
    return None


def threes(roll):
    """The ascending tuple of all three of the things of a roll."""
    check_roll(roll)
    return threes_of(roll.things)


def upon(order, three):
    """Three things as they stand in an order of any three to six things."""
    if not is_order(order):
        raise InvalidOrder(order)
    check_three(things_of(order), three)
    return standing(order, three)


def places(roll, three):
    """The ascending tuple of all places of a roll for three things."""
    check_roll(roll)
    check_three(roll.things, three)
    met = [standing(order, three) for order in roll.orders]
    found = []
    for thing in three:
        for where in POSITIONS:
            if all([each[POSITIONS[where]] != thing for each in met]):
                found.append((thing, where))
    return tuple(found)


def wheel_in(roll, three):
    """Three orders of a roll that are a wheel for three things, ascending; None if there are none."""
    check_roll(roll)
    check_three(roll.things, three)
    return wheel_among(roll.orders, three)


def rough(roll):
    """Three things and three orders of a roll that are a wheel for them; None if the roll is calm."""
    check_roll(roll)
    for three in threes_of(roll.things):
        wheel = wheel_among(roll.orders, three)
        if wheel is not None:
            return three, wheel
    return None


def is_calm(roll):
    """Whether a roll is calm: it is exactly if it has no wheel for any three of its things."""
    return rough(roll) is None
