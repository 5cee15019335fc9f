"""What the most of three people say, and what this tells of all crowds over a roll."""

from itertools import combinations

from calmlists.crowds import Crowd
from calmlists.errors import InvalidOrders, NotCalm
from calmlists.rolls import check_roll, things_of
from calmlists.threes import is_calm


def right_orders(roll, orders):
    """How many elements stand ahead of the first one that is no order of the roll or one too many for three."""
    for index, order in enumerate(orders):
        if index == 3 or order not in roll:
            return index
    return len(orders)


def answers(order):
    """What an order says of each two things, a bit for each two: 1 if the lesser one is above."""
    things = things_of(order)
    bits = 0
    for lesser, greater in combinations(things, 2):
        bits = 2 * bits + (1 if order.index(lesser) < order.index(greater) else 0)
    return bits


def most_answers(three):
    """What the most of three people say of each two things, from what each of them says."""
    one, two, last = three
    return one & two | one & last | two & last


def three_against(roll, spoken):
    """Three orders of a roll that go round, or whose order of the most is not in the roll; None if there are none.

    With `spoken` it is to be one of the three, too.
    """
    check_roll(roll)
    said = {answers(order): order for order in roll.orders}
    numbers = list(said)
    for three in combinations(numbers, 3):
        # If three go round, no order at all says what the most of them say.
        if most_answers(three) not in (three if spoken else numbers):
            return tuple([said[bits] for bits in three])
    return None


def of_three(roll, orders):
    """The order of the most of three people with these orders; None if they go round."""
    check_roll(roll)
    if not isinstance(orders, tuple):
        raise InvalidOrders(None)
    right = right_orders(roll, orders)
    if right < len(orders) or right < 3:
        raise InvalidOrders(right)
    return Crowd(roll, tuple([orders.count(order) for order in roll.orders])).order()


def open_three(roll):
    """Three orders that show that a roll is not closed; None if it is closed."""
    return three_against(roll, False)


def unspoken_three(roll):
    """Three orders that show that a roll is not spoken; None if it is spoken."""
    return three_against(roll, True)


def is_closed(roll):
    """Whether a roll is calm and closed: no three of its orders go round or have another order of the most."""
    return open_three(roll) is None


def is_spoken(roll):
    """Whether a roll is calm and spoken: of each three of its orders one is the order of the most."""
    return unspoken_three(roll) is None


def hull(roll):
    """The hull of a calm roll: the roll with all orders of the most that come of it."""
    if not is_calm(roll):
        raise NotCalm(str(roll))
    whole = roll
    three = open_three(whole)
    while three is not None:
        whole = whole.more(of_three(whole, three))
        three = open_three(whole)
    return whole
