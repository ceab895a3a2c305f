"""Reading the pieces that the codes are made of, from the front of a row of bytes."""

from sevencodes.faults import CutFault, LeastFault, PaddingFault, RangeFault, ShortFault, WidthFault
from sevencodes.measures import in_range, power_of_two, width_of

# More digits than these no offset of a list, or of its steps, can have.
GREATEST_WIDTH = 65

# A short number that goes on behind so many bytes is refused without a further look.
MOST_SHORT_BYTES = 10


class Head:
    """A head as it was read, with the places that its rule may find fault with."""

    def __init__(self, place, least, width_place, width):
        self.place = place
        self.least = least
        self.width_place = width_place
        self.width = width

    def numbers_of(self, offsets):
        """Look at the head's rule, and give the numbers that have these offsets."""
        if 0 not in offsets:
            raise LeastFault(self.place)
        if width_of(offsets) != self.width:
            raise WidthFault(self.width_place)
        return [self.least + offset for offset in offsets]


class Reader:
    """A row of bytes and the place up to which it has been read."""

    def __init__(self, data):
        self.data = data
        self.place = 0

    def read_byte(self):
        """Read one byte."""
        if self.place >= len(self.data):
            raise CutFault(len(self.data))
        byte = self.data[self.place]
        self.place = self.place + 1
        return byte

    def read_short(self):
        """Read a short number."""
        start = self.place
        number = 0
        worth = 1
        for turn in range(MOST_SHORT_BYTES):
            byte = self.read_byte()
            number = number + byte % 128 * worth
            worth = worth * 128
            if byte == 0 and turn > 0:
                raise ShortFault(start)
            if byte < 128:
                return number
        raise ShortFault(start)

    def read_signed(self):
        """Read a signed number, whatever its size."""
        short = self.read_short()
        if short % 2 == 0:
            return short // 2
        return -((short + 1) // 2)

    def read_number(self):
        """Read a signed number that may stand in a list."""
        start = self.place
        number = self.read_signed()
        if not in_range(number):
            raise RangeFault(start)
        return number

    def read_block(self, count, width):
        """Read a block of so many numbers with this width."""
        numbers = []
        span = power_of_two(width)
        held = 0
        # What the next byte's first digit is worth: the digits below it are held.
        worth = 1
        for turn in range(count):
            while worth < span:
                held = held + self.read_byte() * worth
                worth = worth * 256
            numbers.append(held % span)
            held = held // span
            worth = worth // span
        # What is held now are the digits that fill up the last byte.
        if held > 0:
            raise PaddingFault(self.place - 1)
        return numbers

    def read_head(self):
        """Read a head."""
        place = self.place
        least = self.read_signed()
        width_place = self.place
        width = self.read_byte()
        if width > GREATEST_WIDTH:
            raise WidthFault(width_place)
        return Head(place, least, width_place, width)

    def read_pack(self, count):
        """Read a pack of so many whole numbers, which need not be in range."""
        head = self.read_head()
        return head.numbers_of(self.read_block(count, head.width))
