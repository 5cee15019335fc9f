"""Rolls that stand in a row, in which no two things change more than once which one is above."""

from calmlists.crowds import check_crowd
from calmlists.errors import InvalidOrder
from calmlists.most import answers
from calmlists.rolls import check_order_in, check_roll, is_order, is_order_of, things_of


def unlike_bits(one, other):
    """Of which two things two orders say otherwise which one is above, a bit for each two."""
    return answers(one) ^ answers(other)


def how_far(one, other):
    """Of how many pairs of things two orders of the same things say otherwise which one is above."""
    bits = unlike_bits(one, other)
    many = 0
    while bits > 0:
        many += bits & 1
        bits = bits >> 1
    return many


def change_once(orders):
    """Whether no two things change more than once which one is above, along a row of orders."""
    changed = 0
    for at in range(1, len(orders)):
        changing = unlike_bits(orders[at - 1], orders[at])
        if changing & changed != 0:
            return False
        changed = changed | changing
    return True


def from_near_to_far(orders, end):
    """Some orders, by how far they are from one of them."""
    return tuple(sorted(list(orders), key=lambda order: how_far(end, order)))


def unlike(one, other):
    """Of how many pairs of things two orders say otherwise which one is above."""
    if not is_order(one):
        raise InvalidOrder(one)
    if not is_order_of(things_of(one), other):
        raise InvalidOrder(other)
    return how_far(one, other)


def row(roll):
    """All orders of a roll in a row; None if they do not stand in a row."""
    check_roll(roll)
    # Along a row the orders are farther and farther from each one, so the farthest one stands at an end.
    end = from_near_to_far(roll.orders, roll.orders[0])[-1]
    orders = from_near_to_far(roll.orders, end)
    return orders if change_once(orders) else None


def is_row(roll, orders):
    """Whether a value is a tuple of all orders of a roll in a row."""
    check_roll(roll)
    if not isinstance(orders, tuple) or not all([order in roll for order in orders]):
        return False
    return sorted(list(orders)) == list(roll.orders) and change_once(orders)


def between(roll, one, other):
    """The ascending tuple of all orders of a roll that say of each two things what one of two orders says."""
    check_roll(roll)
    check_order_in(roll, one)
    check_order_in(roll, other)
    return tuple([order for order in roll.orders if unlike_bits(order, one) & unlike_bits(order, other) == 0])


def person(crowd):
    """The order of the person in the middle of an odd crowd over a roll that stands in a row; None for others."""
    check_crowd(crowd)
    orders = row(crowd.roll)
    if orders is None or crowd.people % 2 == 0:
        return None
    numbers = dict(zip(crowd.roll.orders, crowd.numbers))
    ahead = crowd.people // 2
    at = 0
    while numbers[orders[at]] <= ahead:
        ahead -= numbers[orders[at]]
        at += 1
    return orders[at]
