"""The refusals of the program: SeatError, and the classes straight under it."""


class SeatError(ValueError):
    """Any refusal."""


class NoName(SeatError):
    """A new name that is no name."""


class Taken(SeatError):
    """A new name that is booked, sits or waits already."""

    def __init__(self, name):
        super().__init__("this name is taken")
        self.name = name


class Unknown(SeatError):
    """A name that ought to be known, and is not."""

    def __init__(self, name):
        super().__init__("nobody of this name is there")
        self.name = name


class NoAsk(SeatError):
    """Numbers or tables that are not as they have to be."""


class Full(SeatError):
    """One more than may be."""


class Sits(SeatError):
    """A party that sits, where it ought to be booked."""

    def __init__(self, name):
        super().__init__("this party sits already")
        self.name = name


class NotSitting(SeatError):
    """A party that is booked, where it ought to sit."""

    def __init__(self, name):
        super().__init__("this party does not sit yet")
        self.name = name


class NoShut(SeatError):
    """A shut that is not there."""


class Early(SeatError):
    """A party that comes ahead of its begin."""

    def __init__(self, hour):
        super().__init__("this party is booked for a later hour")
        self.hour = hour


class Over(SeatError):
    """An hour behind the last one of the evening."""


class NoDeed(SeatError):
    """Nothing that could be taken back."""


class NoOrder(SeatError):
    """A thing that is no order."""


class NoDay(SeatError):
    """A thing that is no day, or a first day behind the last."""


class Bound(SeatError):
    """A closing that stands ahead of another deed of one of its days."""

    def __init__(self, day):
        super().__init__("another deed of this day stands behind the closing")
        self.day = day


class NoText(SeatError):
    """A text that cannot be read."""

    def __init__(self, row):
        super().__init__("this row cannot be read")
        self.row = row


class NoRow(SeatError):
    """A thing that is no row for the desk."""
