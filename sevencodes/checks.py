"""What the calls look at before they write or read: each check refuses by its own error."""

from sevencodes.measures import BEST_CODE, LAST_CODE, MOST_NUMBERS, all_in_range
from sevencodes.refusals import BytesRefusal, CodeRefusal, CountRefusal, PlaceRefusal, RangeRefusal

MOST_BYTES = 6000


def check_code(code):
    """Refuse what is no code's number."""
    if code < 0 or code > LAST_CODE:
        raise CodeRefusal()


def check_parcel_code(code):
    """Refuse what is neither a code's number nor asks for the best code."""
    if code != BEST_CODE:
        check_code(code)


def check_count(n):
    """Refuse what is no list's length."""
    if n < 0 or n > MOST_NUMBERS:
        raise CountRefusal()


def check_numbers(numbers):
    """Refuse numbers that are no list."""
    check_count(len(numbers))
    if not all_in_range(numbers):
        raise RangeRefusal()


def check_bytes(data):
    """Refuse more bytes than are read."""
    if len(data) > MOST_BYTES:
        raise BytesRefusal()


def check_part(start, count, numbers):
    """Refuse to take count numbers, behind start others, where there are not so many."""
    if start < 0 or count < 0 or start + count > len(numbers):
        raise PlaceRefusal()


def check_reading(code, n, data):
    """Refuse to read n numbers in the code from the bytes."""
    check_code(code)
    check_count(n)
    check_bytes(data)
