"""What is told of rolls and crowds, as claims with certificates for the checker."""

from calmlists.crowds import check_crowd
from calmlists.most import open_three, unspoken_three
from calmlists.rolls import all_orders
from calmlists.threes import places, rough, threes
from calmlists.widening import is_full


def certify(roll):
    """That a roll is calm, with a place for each three things, or rough, with a wheel."""
    wheel = rough(roll)
    if wheel is not None:
        return ("rough", str(roll)), wheel
    return ("calm", str(roll)), tuple([places(roll, three)[0] for three in threes(roll)])


def certify_closed(roll):
    """That a roll is closed, or open, with three of its orders."""
    three = open_three(roll)
    if three is not None:
        return ("open", str(roll)), three
    return ("closed", str(roll)), ()


def certify_spoken(roll):
    """That a roll is spoken, or unspoken, with three of its orders."""
    three = unspoken_three(roll)
    if three is not None:
        return ("unspoken", str(roll)), three
    return ("spoken", str(roll)), ()


def certify_full(roll):
    """That a roll is full, with three things for each order that it lacks; None if it is not full."""
    if not is_full(roll):
        return None
    lacked = [order for order in all_orders(roll.things) if order not in roll]
    wheels = [(order, rough(roll.more(order))) for order in lacked]
    return ("full", str(roll)), tuple([(order, three) for order, (three, _) in wheels])


def certify_crowd(crowd):
    """What the order of the most of a crowd is, or that it has a round; None if there is neither."""
    check_crowd(crowd)
    text = str(crowd.roll)
    order = crowd.order()
    if order is not None:
        return ("order", text, crowd.numbers, order), ()
    some = crowd.some_round()
    if some is not None:
        return ("round", text, crowd.numbers), some
    return None
