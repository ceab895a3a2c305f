"""What the writer and the reader both ask of numbers: range, width, stretches."""

LAST_CODE = 6

# Asks for a parcel in whichever code is the best for its numbers.
BEST_CODE = 7

MOST_NUMBERS = 500

LEAST_NUMBER = -9223372036854775808
GREATEST_NUMBER = 9223372036854775807

# The fewest equal neighbours that code 3 writes as a run.
RUN_LENGTH = 8

# How many steps a pack of code 5 holds; only the last one may hold fewer.
PART_LENGTH = 32


def in_range(number):
    """Tell whether a whole number may stand in a list."""
    return number >= LEAST_NUMBER and number <= GREATEST_NUMBER


def all_in_range(numbers):
    """Tell whether every one of the whole numbers may stand in a list."""
    for number in numbers:
        if not in_range(number):
            return False
    return True


def width_of(numbers):
    """Give the least width that holds each number; all are 0 or greater, one at least."""
    return max(numbers).bit_length()


def power_of_two(exponent):
    """Give 2 to the exponent."""
    power = 1
    for turn in range(exponent):
        power = power * 2
    return power


def stretches_of(numbers):
    """Give a pair for each stretch, in order: its member, and how many it has."""
    stretches = []
    start = 0
    for place in range(1, len(numbers) + 1):
        if place == len(numbers) or numbers[place] != numbers[start]:
            stretches.append((numbers[start], place - start))
            start = place
    return stretches
