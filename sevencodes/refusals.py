"""Why a call refuses what is handed in, one class for each reason."""


class Refusal(Exception):
    """What a call answers in the place of all else: a number below 0."""

    def __init__(self, number):
        self.number = number


class CodeRefusal(Refusal):
    """There is no such code."""

    def __init__(self):
        Refusal.__init__(self, -1)


class CountRefusal(Refusal):
    """So many numbers no list has."""

    def __init__(self):
        Refusal.__init__(self, -2)


class BytesRefusal(Refusal):
    """More bytes are handed in than are read."""

    def __init__(self):
        Refusal.__init__(self, -3)


class RangeRefusal(Refusal):
    """A number that is to be written is out of range."""

    def __init__(self):
        Refusal.__init__(self, -4)


class PlaceRefusal(Refusal):
    """What is asked for lies beyond the numbers of a parcel."""

    def __init__(self):
        Refusal.__init__(self, -5)
