"""The calls. Each gives back one list of whole numbers; a refusal is its number alone."""

from sevencodes.checks import check_code, check_count, check_numbers, check_parcel_code, check_part, check_reading
from sevencodes.faults import Fault
from sevencodes.parcels import read_parcel, write_parcel
from sevencodes.reader import Reader
from sevencodes.reading import read_list
from sevencodes.refusals import Refusal
from sevencodes.writing import best_of, sizes_of, write_list

NO_FAULT = 0
FOUND = 0


def counted(row):
    """Give how many the row has, then the row."""
    return [len(row)] + row


def encode(code, numbers):
    """Write the numbers in the code: how many bytes, then each byte."""
    try:
        check_code(code)
        check_numbers(numbers)
    except Refusal as e:
        return [e.number]
    return counted(write_list(code, numbers))


def decode(code, n, data):
    """Read n numbers in the code from the front of the bytes: how many bytes were read, then the numbers."""
    reader = Reader(data)
    try:
        check_reading(code, n, data)
        numbers = read_list(reader, code, n)
    except Refusal as e:
        return [e.number]
    return [reader.place] + numbers


def fault(code, n, data):
    """Read as decode does, and tell the first fault: its kind and its place, or 0 alone if there is none."""
    try:
        check_reading(code, n, data)
        read_list(Reader(data), code, n)
    except Fault as e:
        return [e.kind, e.place]
    except Refusal as e:
        return [e.number]
    return [NO_FAULT]


def sizes(numbers):
    """Tell the best code for the numbers, then how many bytes they have in each code."""
    try:
        check_numbers(numbers)
    except Refusal as e:
        return [e.number]
    lengths = sizes_of(numbers)
    return [best_of(lengths)] + lengths


def pack(code, numbers):
    """Write the parcel of the numbers in the code, or in the best one for them: how many bytes, then each byte."""
    try:
        check_parcel_code(code)
        check_numbers(numbers)
    except Refusal as e:
        return [e.number]
    return counted(write_parcel(code, numbers))


def unpack(data):
    """Read the bytes as a parcel: how many numbers, then the numbers."""
    try:
        numbers = read_parcel(data)
    except Refusal as e:
        return [e.number]
    return counted(numbers)


def unfault(data):
    """Read as unpack does, and tell the first fault: its kind and its place, or 0 alone if there is none."""
    try:
        read_parcel(data)
    except Fault as e:
        return [e.kind, e.place]
    except Refusal as e:
        return [e.number]
    return [NO_FAULT]


def recode(code, data):
    """Read the bytes as a parcel, and write its numbers as one in the code, or in the best one for them."""
    try:
        check_parcel_code(code)
        numbers = read_parcel(data)
    except Refusal as e:
        return [e.number]
    return counted(write_parcel(code, numbers))


def join(code, first, second):
    """Read two parcels, and write the first's numbers and behind them the second's as one parcel in the code."""
    try:
        check_parcel_code(code)
        front = read_parcel(first)
        back = read_parcel(second)
        check_count(len(front) + len(back))
    except Refusal as e:
        return [e.number]
    return counted(write_parcel(code, front + back))


def part(code, start, count, data):
    """Read a parcel, and write count of its numbers, those behind the first start ones, as a parcel in the code."""
    try:
        check_parcel_code(code)
        numbers = read_parcel(data)
        check_part(start, count, numbers)
    except Refusal as e:
        return [e.number]
    return counted(write_parcel(code, numbers[start:start + count]))


def at(k, data):
    """Read the bytes as a parcel, and tell 0, then the number that has k numbers before it."""
    try:
        numbers = read_parcel(data)
        check_part(k, 1, numbers)
    except Refusal as e:
        return [e.number]
    return [FOUND, numbers[k]]
