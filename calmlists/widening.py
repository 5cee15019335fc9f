"""Orders that can be put into a roll, full rolls, and rolls from told places."""

from calmlists.errors import InvalidRules, InvalidThings, NotCalm, TooMany
from calmlists.limits import MOST_FULL, MOST_ORDERS
from calmlists.rolls import Roll, all_orders, check_roll, is_order, things_of
from calmlists.threes import POSITIONS, is_calm, places, standing, threes_of, wheels_upon

MOST_RULES = 60


def missing_in_wheels(orders, three):
    """How three things stand in an order with which some orders of a calm roll come to have a wheel for them."""
    met = [standing(order, three) for order in orders]
    lacking = [[each for each in wheel if each not in met] for wheel in wheels_upon(three)]
    return [missing[0] for missing in lacking if len(missing) == 1]


def fitting(orders, others):
    """Those of some other orders that can be put in, each by itself, such that some orders stay calm."""
    for three in threes_of(things_of(orders[0])):
        missing = missing_in_wheels(orders, three)
        others = [other for other in others if standing(other, three) not in missing]
    return others


def is_rule(things, value):
    """Whether a value is a rule for some things: three of them, one of these, and where it stands in no order."""
    if not isinstance(value, tuple) or len(value) != 3 or not all([isinstance(each, str) for each in value]):
        return False
    three, thing, where = value
    return three in threes_of(things) and len(thing) == 1 and thing in three and where in POSITIONS


def right_rules(things, rules):
    """How many elements stand ahead of the first one that is no rule for some things or one too many."""
    for index, rule in enumerate(rules):
        if index == MOST_RULES or not is_rule(things, rule):
            return index
    return len(rules)


def keeping(orders, rule):
    """Those of some orders that keep a rule."""
    three, thing, where = rule
    return [order for order in orders if standing(order, three)[POSITIONS[where]] != thing]


def wider(roll):
    """The ascending tuple of all orders that can be put into a roll, each by itself, such that it is calm."""
    if not is_calm(roll):
        return ()
    return tuple(fitting(roll.orders, [order for order in all_orders(roll.things) if order not in roll]))


def is_full(roll):
    """Whether a roll is full: calm, and no other order can be put in."""
    return is_calm(roll) and len(wider(roll)) == 0


def full(roll):
    """A full roll that holds a calm one."""
    if not is_calm(roll):
        raise NotCalm(str(roll))
    orders = list(roll.orders)
    left = list(wider(roll))
    while len(left) > 0:
        # What cannot be put in once cannot be put in later.
        orders.append(left[0])
        left = fitting(orders, left[1:])
    return Roll(tuple(sorted(orders)))


def all_full(roll):
    """The tuple of all full rolls that hold a roll, ascending by their orders; none if it is not calm."""
    check_roll(roll)
    if len(roll.things) > MOST_FULL:
        raise TooMany(len(roll.things))
    # A full roll has all orders that keep one of its places for each three things.
    found = [tuple(all_orders(roll.things))]
    for three in threes_of(roll.things):
        rules = [(three, thing, where) for thing, where in places(roll, three)]
        kept_so = {tuple(keeping(orders, rule)): True for orders in found for rule in rules}
        found = sorted(list(kept_so))
    rolls = [Roll(orders) for orders in found]
    return tuple([each for each in rolls if is_full(each)])


def kept(things, rules):
    """The roll of all orders of some things that keep some rules; None if there is no such order."""
    if not is_order(things) or things_of(things) != things:
        raise InvalidThings(things)
    if not isinstance(rules, tuple):
        raise InvalidRules(None)
    right = right_rules(things, rules)
    if right < len(rules):
        raise InvalidRules(right)
    orders = all_orders(things)
    for rule in rules:
        orders = keeping(orders, rule)
    if len(orders) > MOST_ORDERS:
        raise TooMany(len(orders))
    if len(orders) == 0:
        return None
    return Roll(tuple(orders))
