"""Rolls that several tests share, the same ones each time."""

import random

from calmlists.crowds import Crowd
from calmlists.rolls import Roll
from calmlists.threes import is_calm
from support import NO_ROLLS, all_rolls, calm, orders_of

HILLS = Roll(("abc", "bac", "bca", "cba"))
WHEEL = Roll(("abc", "bca", "cab"))
FEW = Roll(("abc", "bca", "cba"))
EVERY = Roll(orders_of("abc"))
FOUR = Roll(("abcd", "bacd", "bcad", "bcda", "cbad", "cbda", "cdba", "dcba"))
SOME = Roll(("abcd", "bcda", "cbad"))
SQUARE = Roll(("abcd", "abdc", "bacd", "badc"))
SIX = orders_of("abcdef")
THREE_THERE = Crowd(WHEEL, (1, 1, 1))
FIVE_THERE = Crowd(HILLS, (2, 0, 1, 2))
NO_CROWDS = [*NO_ROLLS, HILLS, (HILLS, (1, 0, 0, 0)), (1, 1, 1), [HILLS, (1, 0, 0, 0)]]


def kept_calm(things, seed):
    """A full roll of some things, of orders that are put in one after the other."""
    chosen = random.Random(seed)
    orders = list(orders_of(things))
    chosen.shuffle(orders)
    held = [orders[0]]
    for order in orders[1:]:
        if is_calm(Roll(tuple(sorted([*held, order])))):
            held.append(order)
    return Roll(tuple(sorted(held)))


def parts_of(roll, many, least=1):
    """So many parts of a roll."""
    chosen = random.Random(3)
    sizes = [chosen.randint(min(least, len(roll)), len(roll)) for _ in range(many)]
    return [Roll(tuple(sorted(chosen.sample(roll.orders, size)))) for size in sizes]


def drawn_rolls(things, many, least=1, most=48):
    """Rolls of so many orders."""
    chosen = random.Random(5)
    orders = orders_of(things)
    sizes = [chosen.randint(least, min(most, len(orders))) for _ in range(many)]
    return [Roll(tuple(sorted(chosen.sample(orders, size)))) for size in sizes]


def as_roll(orders):
    return Roll(tuple(sorted(orders)))


def drawn_row(things, chosen):
    """From an order to the one turned round, in each step two things side by side that have not changed yet."""
    order = chosen.choice(orders_of(things))
    start, orders = order, [order]
    while order != start[::-1]:
        ats = [at for at in range(len(order) - 1) if start.index(order[at]) < start.index(order[at + 1])]
        at = chosen.choice(ats)
        order = order[:at] + order[at + 1] + order[at] + order[at + 2:]
        orders.append(order)
    return tuple(orders)


def drawn_rows():
    """Rolls that stand in a row, each as it stands there."""
    chosen = random.Random(12)
    found = []
    for things in ("abc", "abcd", "kmtz", "abcde", "vwxyz", "abcdef"):
        for _ in range(8):
            whole = drawn_row(things, chosen)
            found.append(whole)
            kept = sorted(chosen.sample(range(len(whole)), chosen.randint(1, len(whole))))
            found.append(tuple(whole[at] for at in kept))
    return found


def other_letters(order):
    return order.translate(str.maketrans("abcdefuvwxyz", "qzbmaxgyfkrd"))


def turned(order):
    return order[::-1]


def changed(roll, change):
    """The roll with each order changed."""
    return Roll(tuple(sorted(change(order) for order in roll.orders)))


CHANGES = (other_letters, turned, lambda order: other_letters(turned(order)))
LARGE = [kept_calm("abcde", 1), kept_calm("vwxyz", 2), kept_calm("abcdef", 3)]
PARTS = [
    *parts_of(FOUR, 40), *parts_of(kept_calm("abcd", 4), 30), *parts_of(kept_calm("abcd", 11), 30),
    *[part for roll in LARGE for part in parts_of(roll, 12)],
]
CALM = [*[roll for roll in all_rolls("abc") if calm(roll.orders)], FOUR, SOME, SQUARE, *LARGE, *PARTS]
ROWS = drawn_rows()
ROUGH = [*[roll for roll in all_rolls("abc") if not calm(roll.orders)], Roll(orders_of("abcd")), Roll(SIX[:48])]
