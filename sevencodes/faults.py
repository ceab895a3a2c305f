"""The faults that reading bytes can meet, one class for each kind."""

from sevencodes.refusals import Refusal


class Fault(Refusal):
    """Why reading stopped: the kind of the first fault, and its place."""

    def __init__(self, kind, place):
        Refusal.__init__(self, -10 - kind)
        self.kind = kind
        self.place = place


class CutFault(Fault):
    """The bytes end too early; the place is the end."""

    def __init__(self, place):
        Fault.__init__(self, 1, place)


class ShortFault(Fault):
    """A short number is too long, or is not in its one form."""

    def __init__(self, place):
        Fault.__init__(self, 2, place)


class RangeFault(Fault):
    """A number is beyond the range of a list's numbers."""

    def __init__(self, place):
        Fault.__init__(self, 3, place)


class CountFault(Fault):
    """A count is 0, or greater than what is still wanted."""

    def __init__(self, place):
        Fault.__init__(self, 4, place)


class StretchFault(Fault):
    """Equal neighbours are not grouped as the writer groups them."""

    def __init__(self, place):
        Fault.__init__(self, 5, place)


class WidthFault(Fault):
    """A width is too great, or is not the width of what stands behind it."""

    def __init__(self, place):
        Fault.__init__(self, 6, place)


class PaddingFault(Fault):
    """A digit that only fills up a block's last byte is 1."""

    def __init__(self, place):
        Fault.__init__(self, 7, place)


class LeastFault(Fault):
    """A head's least number is not among the numbers."""

    def __init__(self, place):
        Fault.__init__(self, 8, place)


class EntryFault(Fault):
    """A place is that of no entry, or an entry is never used."""

    def __init__(self, place):
        Fault.__init__(self, 9, place)


class LeftFault(Fault):
    """Bytes are left behind a parcel."""

    def __init__(self, place):
        Fault.__init__(self, 10, place)


class TagFault(Fault):
    """A parcel's code is none of the seven."""

    def __init__(self, place):
        Fault.__init__(self, 11, place)
