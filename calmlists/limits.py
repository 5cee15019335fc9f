"""The greatest and least numbers that the program works with."""

LEAST_THINGS = 3
MOST_THINGS = 6
MOST_ORDERS = 48
MOST_OUT = 12
MOST_FULL = 4
