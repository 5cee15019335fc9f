"""The errors of the program, each under one of three base classes."""


class WrongValue(ValueError):
    """A value that is passed is not of the form that the call asks for."""


class WrongName(LookupError):
    """What is passed has the right form, but is not there."""


class NotPossible(ArithmeticError):
    """What is asked for cannot be done here."""


class InvalidText(WrongValue):
    """No text of a roll."""

    def __init__(self, given):
        super().__init__("no text of a roll")
        self.given = given


class InvalidOrder(WrongValue):
    """No order that can stand here."""

    def __init__(self, given):
        super().__init__("no order that can stand here")
        self.given = given


class InvalidThree(WrongValue):
    """No ascending string of three of the things."""

    def __init__(self, given):
        super().__init__("no ascending string of three of the things")
        self.given = given


class InvalidThings(WrongValue):
    """No ascending string of three to six letters."""

    def __init__(self, given):
        super().__init__("no ascending string of three to six letters")
        self.given = given


class InvalidNumber(WrongValue):
    """No number that can stand here."""

    def __init__(self, given):
        super().__init__("no number that can stand here")
        self.given = given


class InvalidWish(WrongValue):
    """No wish for a roll."""

    def __init__(self, given):
        super().__init__("no wish for a roll")
        self.given = given


class InvalidCommand(WrongValue):
    """No command of the console."""

    def __init__(self, given):
        super().__init__("no command of the console")
        self.given = given


class NotARoll(WrongValue):
    """No roll."""

    def __init__(self, given):
        super().__init__("no roll")
        self.given = given


class NotACrowd(WrongValue):
    """No crowd."""

    def __init__(self, given):
        super().__init__("no crowd")
        self.given = given


class InvalidOrders(WrongValue):
    """No orders that can stand here."""

    def __init__(self, index):
        super().__init__("no orders that can stand here")
        self.index = index


class InvalidPeople(WrongValue):
    """No numbers of people for the roll."""

    def __init__(self, index):
        super().__init__("no numbers of people for the roll")
        self.index = index


class InvalidRules(WrongValue):
    """No rules for the things."""

    def __init__(self, index):
        super().__init__("no rules for the things")
        self.index = index


class UnknownThing(WrongName):
    """No thing of the roll."""

    def __init__(self, given):
        super().__init__("no thing of the roll")
        self.given = given


class UnknownOrder(WrongName):
    """No order of the roll."""

    def __init__(self, given):
        super().__init__("no order of the roll")
        self.given = given


class NothingToUndo(NotPossible):
    """No change is left that could be taken back."""


class TooMany(NotPossible):
    """Too many."""

    def __init__(self, given):
        super().__init__("too many")
        self.given = given


class TooFew(NotPossible):
    """Too few."""

    def __init__(self, given):
        super().__init__("too few")
        self.given = given


class NotCalm(NotPossible):
    """The roll is not calm."""

    def __init__(self, given):
        super().__init__("the roll is not calm")
        self.given = given


class Broken(NotPossible):
    """A promise would not hold."""

    def __init__(self, index):
        super().__init__("a promise would not hold")
        self.index = index
