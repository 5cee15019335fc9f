"""A desk by lines."""

from calmlists.crowds import Crowd
from calmlists.desks import Desk
from calmlists.errors import InvalidCommand
from calmlists.most import hull, is_closed, is_spoken
from calmlists.rows import row
from calmlists.threes import POSITIONS, is_calm, places
from calmlists.widening import is_full, wider

# WORD stands for an order, three things or a thing, WHERE for a word of places, N for a number; NS for one or more.
FORMS = (
    ("put", "WORD"), ("take", "WORD"), ("undo",), ("lift", "N"), ("promise", "calm"), ("promise", "closed"),
    ("promise", "spoken"), ("promise", "full"), ("promise", "holds", "WORD"), ("promise", "lacks", "WORD"),
    ("promise", "place", "WORD", "WORD", "WHERE"), ("promise", "few", "N"), ("calm",), ("closed",), ("spoken",),
    ("full",), ("orders",), ("wider",), ("hull",), ("places", "WORD"), ("row",), ("most", "NS"), ("round", "NS"),
)


def is_digits(word):
    """Whether a word is an integer of up to eight digits, without needless zeros."""
    if not 1 <= len(word) <= 8 or not all(["0" <= sign <= "9" for sign in word]):
        return False
    return word == "0" or word[0] != "0"


def fits(part, word):
    """Whether a word stands as a part of a form says."""
    if part == "WORD":
        return 1 <= len(word) <= 6 and all(["a" <= sign <= "z" for sign in word])
    if part == "WHERE":
        return word in POSITIONS
    if part == "N":
        return is_digits(word)
    return word == part


def parts_for(form, many):
    """The parts of a form for so many words."""
    if form[-1] != "NS":
        return form
    return form[:-1] + ("N",) * max(many - 1, 1)


def is_command(value):
    """Whether a value is a string of one of the forms."""
    if not isinstance(value, str):
        return False
    words = value.split(" ")
    for form in FORMS:
        parts = parts_for(form, len(words))
        if len(parts) == len(words) and all([fits(part, word) for part, word in zip(parts, words)]):
            return True
    return False


def yes_or_no(told):
    """The answer to a question."""
    return "yes" if told else "no"


def or_none(told):
    """The answer that may be none."""
    return "none" if told is None else told


def do(desk, word, told):
    """Does at a desk what a word tells, with what stands behind it."""
    if word == "put":
        desk.put(told[0])
    elif word == "take":
        desk.take(told[0])
    elif word == "undo":
        desk.undo()
    elif word == "lift":
        desk.lift(told[0])
    else:
        desk.promise(told)


def answer(roll, word, told):
    """The answer to what a word asks of a roll, with what stands behind it."""
    if word == "calm":
        return yes_or_no(is_calm(roll))
    if word == "closed":
        return yes_or_no(is_closed(roll))
    if word == "spoken":
        return yes_or_no(is_spoken(roll))
    if word == "full":
        return yes_or_no(is_full(roll))
    if word == "orders":
        return " ".join(roll.orders)
    if word == "wider":
        return " ".join(wider(roll))
    if word == "hull":
        return " ".join(hull(roll).orders)
    if word == "places":
        return ", ".join([f"{thing} {where}" for thing, where in places(roll, told[0])])
    if word == "row":
        orders = row(roll)
        return "none" if orders is None else " ".join(orders)
    crowd = Crowd(roll, told)
    if word == "most":
        return or_none(crowd.order())
    return yes_or_no(crowd.some_round() is not None)


class Console:
    """A desk by lines."""

    def __init__(self, roll):
        self._desk = Desk(roll)

    def __eq__(self, other):
        return self is other

    @property
    def desk(self):
        """The desk."""
        return self._desk

    def say(self, command):
        """Does a command, and tells the answer."""
        if not is_command(command):
            raise InvalidCommand(command)
        words = command.split(" ")
        told = tuple([int(each) if is_digits(each) else each for each in words[1:]])
        if words[0] in ("put", "take", "undo", "lift", "promise"):
            do(self._desk, words[0], told)
            return "ok"
        return answer(self._desk.roll, words[0], told)
