"""Parcels: a list with its length and its code's number before it, written and read."""

from sevencodes.checks import check_bytes
from sevencodes.faults import CountFault, LeftFault, TagFault
from sevencodes.measures import BEST_CODE, LAST_CODE, MOST_NUMBERS
from sevencodes.reader import Reader
from sevencodes.reading import read_list
from sevencodes.writing import best_of, sizes_of, write_list, write_short


def write_parcel(code, numbers):
    """Give the parcel of the numbers in the code, or in the best one for them."""
    tag = best_of(sizes_of(numbers)) if code == BEST_CODE else code
    return write_short(len(numbers)) + [tag] + write_list(tag, numbers)


def read_length(reader):
    """Read how many numbers a parcel has."""
    place = reader.place
    n = reader.read_short()
    if n > MOST_NUMBERS:
        raise CountFault(place)
    return n


def read_tag(reader):
    """Read the number of a parcel's code."""
    place = reader.place
    tag = reader.read_byte()
    if tag > LAST_CODE:
        raise TagFault(place)
    return tag


def read_parcel(data):
    """Read all the bytes as one parcel, and give its numbers."""
    check_bytes(data)
    reader = Reader(data)
    n = read_length(reader)
    tag = read_tag(reader)
    numbers = read_list(reader, tag, n)
    if reader.place < len(data):
        raise LeftFault(reader.place)
    return numbers
