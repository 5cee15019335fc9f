"""A checker of claims about rolls and crowds: what it accepts is true, whoever wrote the certificate."""

from calmlists.crowds import Crowd
from calmlists.errors import InvalidPeople
from calmlists.most import is_closed, is_spoken, of_three
from calmlists.rolls import Roll, all_orders, right_ahead
from calmlists.threes import is_calm, places, threes_of, wheel_among


def roll_with(text):
    """The roll with a text; None if the value is the text of none."""
    if not isinstance(text, str):
        return None
    orders = tuple(text.split("\n"))
    return Roll(orders) if right_ahead(orders) == len(orders) else None


def crowd_with(roll, numbers):
    """The crowd over a roll with these numbers of people; None if they are none."""
    try:
        return Crowd(roll, numbers)
    except InvalidPeople:
        return None


def is_nothing(value):
    """Whether a value is ()."""
    return isinstance(value, tuple) and len(value) == 0


def is_many_pairs(value, many):
    """Whether a value is a tuple of so many pairs of strings."""
    if not isinstance(value, tuple) or len(value) != many:
        return False
    if not all([isinstance(pair, tuple) and len(pair) == 2 for pair in value]):
        return False
    return all([isinstance(each, str) for pair in value for each in pair])


def is_three_orders(roll, value):
    """Whether a value is an ascending tuple of three orders of a roll."""
    if not isinstance(value, tuple) or len(value) != 3 or not all([order in roll for order in value]):
        return False
    return value[0] < value[1] < value[2]


def shows_calm(roll, certificate):
    """Whether a certificate has a place of a roll for each three of its things."""
    threes = threes_of(roll.things)
    if not is_many_pairs(certificate, len(threes)):
        return False
    return all([pair in places(roll, three) for pair, three in zip(certificate, threes)])


def shows_rough(roll, certificate):
    """Whether a certificate has three things, and three orders of a roll that are a wheel for them."""
    if not isinstance(certificate, tuple) or len(certificate) != 2:
        return False
    three, orders = certificate
    if not isinstance(three, str) or three not in threes_of(roll.things):
        return False
    return is_three_orders(roll, orders) and wheel_among(orders, three) is not None


def shows_closed(roll, certificate):
    """Whether a certificate is (), and a roll is closed."""
    return is_nothing(certificate) and is_closed(roll)


def shows_spoken(roll, certificate):
    """Whether a certificate is (), and a roll is spoken."""
    return is_nothing(certificate) and is_spoken(roll)


def shows_open(roll, certificate):
    """Whether a certificate has three orders of a roll that go round, or whose order of the most it lacks."""
    return is_three_orders(roll, certificate) and of_three(roll, certificate) not in roll


def shows_unspoken(roll, certificate):
    """Whether a certificate has three orders of a roll that go round, or none of which the most have."""
    return is_three_orders(roll, certificate) and of_three(roll, certificate) not in certificate


def shows_full(roll, certificate):
    """Whether a roll is calm, and a certificate has a wheel's three things for each order that it lacks."""
    lacked = [order for order in all_orders(roll.things) if order not in roll]
    if not is_calm(roll) or not is_many_pairs(certificate, len(lacked)):
        return False
    if lacked != [order for order, _ in certificate]:
        return False
    threes = threes_of(roll.things)
    return all([
        three in threes and wheel_among((*roll.orders, order), three) is not None for order, three in certificate])


def shows_round(crowd, certificate):
    """Whether a certificate is a round of a crowd."""
    if not isinstance(certificate, str) or len(certificate) < 3 or len(set(certificate)) < len(certificate):
        return False
    if not all([thing in crowd.roll.things for thing in certificate]):
        return False
    # The one ahead of the first one, at -1, is the last one.
    return all([crowd.beats(certificate[at - 1], certificate[at]) for at in range(len(certificate))])


def shows_order(crowd, order, certificate):
    """Whether a certificate is (), and a value is the order of the most of a crowd."""
    return is_nothing(certificate) and isinstance(order, str) and order == crowd.order()


SHOWN = {
    "calm": shows_calm, "rough": shows_rough, "closed": shows_closed, "spoken": shows_spoken, "open": shows_open,
    "unspoken": shows_unspoken, "full": shows_full,
}


def accepts(claim, certificate):
    """Whether a value is a claim for the checker, and another value is a certificate for it."""
    if not isinstance(claim, tuple) or not 2 <= len(claim) <= 4 or not isinstance(claim[0], str):
        return False
    word = claim[0]
    roll = roll_with(claim[1])
    if roll is None:
        return False
    if len(claim) == 2:
        if word not in SHOWN:
            return False
        shown = SHOWN[word]
        return shown(roll, certificate)
    crowd = crowd_with(roll, claim[2])
    if crowd is None:
        return False
    if len(claim) == 3:
        return word == "round" and shows_round(crowd, certificate)
    return word == "order" and shows_order(crowd, claim[3], certificate)
