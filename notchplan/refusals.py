"""Why a call is refused, and the number that is answered then."""


class Refusal(Exception):
    """A call that is refused; it bears the number that is answered."""

    def __init__(self, number):
        Exception.__init__(self, number)
        self.number = number


class NotBytes(Refusal):
    """A text has a number that is no byte."""

    def __init__(self):
        Refusal.__init__(self, -1)


class NotInRange(Refusal):
    """A whole number is not in the range that is told."""

    def __init__(self):
        Refusal.__init__(self, -3)


class NotAPlan(Refusal):
    """A row is not a plan of the file."""

    def __init__(self):
        Refusal.__init__(self, -4)


class NotLabels(Refusal):
    """A row is not as many numbers as the table has, or has one that is too small or too great."""

    def __init__(self):
        Refusal.__init__(self, -4)


class NotThere(Refusal):
    """There is no such field or code."""

    def __init__(self):
        Refusal.__init__(self, -5)


class NeverAsked(Refusal):
    """All fields together are asked 0 times."""

    def __init__(self):
        Refusal.__init__(self, -7)


class Fault(Refusal):
    """A text has a word that can't stand where it stands, or too few words."""

    def __init__(self, place):
        Refusal.__init__(self, -1000 - place)
        self.place = place
