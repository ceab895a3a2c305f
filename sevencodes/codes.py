"""The calls. Each gives back one list of whole numbers; a refusal is its number alone."""

from sevencodes.faults import Fault
from sevencodes.measures import all_in_range
from sevencodes.reader import Reader
from sevencodes.reading import read_list
from sevencodes.writing import write_list

LAST_CODE = 6
MOST_NUMBERS = 500
MOST_BYTES = 6000

REFUSED_CODE = -1
REFUSED_COUNT = -2
REFUSED_BYTES = -3
REFUSED_RANGE = -4

# A fault is refused with this less the fault's kind.
REFUSED_FAULT = -10


def encode(code, numbers):
    """Write the numbers in the code: how many bytes, then each byte."""
    if code < 0 or code > LAST_CODE:
        return [REFUSED_CODE]
    if len(numbers) > MOST_NUMBERS:
        return [REFUSED_COUNT]
    if not all_in_range(numbers):
        return [REFUSED_RANGE]
    out = write_list(code, numbers)
    return [len(out)] + out


def decode(code, n, data):
    """Read n numbers in the code from the front of the bytes: how many bytes were read, then the numbers."""
    if code < 0 or code > LAST_CODE:
        return [REFUSED_CODE]
    if n < 0 or n > MOST_NUMBERS:
        return [REFUSED_COUNT]
    if len(data) > MOST_BYTES:
        return [REFUSED_BYTES]
    reader = Reader(data)
    try:
        numbers = read_list(reader, code, n)
    except Fault as e:
        return [REFUSED_FAULT - e.kind]
    return [reader.place] + numbers
