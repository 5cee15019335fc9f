"""What the document says, word by word, of claims and their certificates; and values that are bent at one place."""

from itertools import combinations
from unittest.mock import ANY

from calmlists.rolls import Roll
from support import are_a_wheel, calm, has_wheel, most, orders_of, people_of, rounds, threes_in, where

WORDS = ("first", "middle", "last")


def same(one, other):
    """Whether two values are the same, of the same classes all through."""
    if one.__class__ is not other.__class__:
        return False
    if isinstance(one, tuple):
        return len(one) == len(other) and all(same(a, b) for a, b in zip(one, other))
    return one.__class__ in (str, int) and one == other


def among(value, values):
    return any(same(value, each) for each in values)


def orders_with(text):
    """The orders of the roll with a text; None if it is no such text."""
    if text.__class__ is not str:
        return None
    orders = tuple(text.split("\n"))
    things = sorted(orders[0])
    if len(set(things)) < len(things) or not 3 <= len(things) <= 6 or not all("a" <= each <= "z" for each in things):
        return None
    if any(sorted(order) != things for order in orders) or list(orders) != sorted(set(orders)) or len(orders) > 48:
        return None
    return orders


def are_numbers(value, many):
    if value.__class__ is not tuple or len(value) != many or any(each.__class__ is not int for each in value):
        return False
    return min(value) >= 0 and sum(value) >= 1


def all_places(orders, three):
    """All places of a roll for three things."""
    pairs = [(thing, at) for thing in three for at in range(3)]
    return [(thing, WORDS[at]) for thing, at in pairs if all(where(order, three, thing) != at for order in orders)]


def all_wheels(orders):
    """All pairs of three things and three orders that are a wheel for them."""
    threes = threes_in(orders[0])
    return [(three, each) for three in threes for each in combinations(orders, 3) if are_a_wheel(each, three)]


def closed(orders):
    return calm(orders) and all(most(three) in orders for three in combinations(orders, 3))


def spoken(orders):
    return calm(orders) and all(most(three) in three for three in combinations(orders, 3))


def all_open(orders):
    return [three for three in combinations(orders, 3) if most(three) not in orders]


def all_unspoken(orders):
    return [three for three in combinations(orders, 3) if most(three) not in three]


def shows_calm(orders, certificate):
    threes = threes_in(orders[0])
    if certificate.__class__ is not tuple or len(certificate) != len(threes):
        return False
    return all(among(pair, all_places(orders, three)) for pair, three in zip(certificate, threes))


def shows_full(orders, certificate):
    lacked = [order for order in orders_of(sorted(orders[0])) if order not in orders]
    if not calm(orders) or certificate.__class__ is not tuple or len(certificate) != len(lacked):
        return False
    wheels = {order: [three for three in threes_in(order) if has_wheel((*orders, order), three)] for order in lacked}
    rights = [[(order, three) for three in wheels[order]] for order in lacked]
    return all(among(pair, pairs) for pair, pairs in zip(certificate, rights))


def shows_of_roll(word, orders, certificate):
    if word == "calm":
        return shows_calm(orders, certificate)
    if word == "rough":
        return among(certificate, all_wheels(orders))
    if word == "closed":
        return same(certificate, ()) and closed(orders)
    if word == "spoken":
        return same(certificate, ()) and spoken(orders)
    if word == "open":
        return among(certificate, all_open(orders))
    if word == "unspoken":
        return among(certificate, all_unspoken(orders))
    return word == "full" and shows_full(orders, certificate)


def is_right(claim, certificate):
    """Whether a value is a claim for the checker, and another one is a certificate for it."""
    if claim.__class__ is not tuple or len(claim) not in (2, 3, 4) or claim[0].__class__ is not str:
        return False
    orders = orders_with(claim[1])
    if orders is None:
        return False
    if len(claim) == 2:
        return shows_of_roll(claim[0], orders, certificate)
    if not are_numbers(claim[2], len(orders)):
        return False
    people = people_of(orders, claim[2])
    if len(claim) == 3:
        return claim[0] == "round" and among(certificate, rounds(people))
    return claim[0] == "order" and same(certificate, ()) and same(claim[3], most(people) or 0)


def bends_of_string(text):
    found = [text.upper(), text + " ", " " + text, text + "\n", text[:-1], text[1:], text[::-1], text + text[-1:], ""]
    for at in range(min(len(text), 12)):
        found.extend(text[:at] + letter + text[at + 1:] for letter in "abz\n")
        found.append(text[:at] + text[at + 1:])
    return [*found, text.encode(), list(text), tuple(text), (text,), [text], None]


def bends_of_tuple(value):
    found = [value[::-1], list(value), (value,), value * 2, (*value, None), (*value, ""), (*value, ()), (), None, ANY]
    for at, each in enumerate(value):
        ahead, behind = value[:at], value[at + 1:]
        found.extend([ahead + behind, (*ahead, each, each, *behind)])
        found.extend((*ahead, other, *behind) for other in [*bends(each), 0, ANY, value[at - 1]])
    return found


def bends(value):
    """Values that are bent at one place, or otherwise of a wrong kind. Some may still be right by chance."""
    if isinstance(value, str):
        return bends_of_string(value)
    if isinstance(value, tuple):
        return bends_of_tuple(value)
    return [value + 1, value - 1, -value, -value - 1, str(value), (value,), [value], True, False, None, 0, ""]


def claim_of(word, roll, *more):
    return word, "\n".join(Roll(roll.orders).orders), *more
