"""What the tests share: the pieces of the codes, built apart from the program, and lists with their bytes."""

LEAST = -9223372036854775808
GREATEST = 9223372036854775807
CODES = range(7)


def short(number):
    """The short number, by way of its binary digits in sevens."""
    digits = bin(number)[2:]
    digits = digits.zfill((len(digits) + 6) // 7 * 7)
    sevens = [int(digits[k:k + 7], 2) for k in range(0, len(digits), 7)]
    sevens.reverse()
    return [128 + seven for seven in sevens[:-1]] + sevens[-1:]


def signed(number):
    return short(2 * number if number >= 0 else -2 * number - 1)


def block(numbers, width):
    """The block, by way of its row of digits as a text."""
    row = "".join(format(number, "b").zfill(width)[::-1] for number in numbers) if width else ""
    row += "0" * (-len(row) % 8)
    return [int(row[k:k + 8][::-1], 2) for k in range(0, len(row), 8)]


def squares(count):
    return [k * k for k in range(count)]


def every_third(count):
    return [3 * k - 40 for k in range(count)]


def square_steps(first, last):
    """The pack of the steps between squares, from the one behind first squared to the one before last squared."""
    offsets = [2 * k for k in range(last - first)]
    return signed(2 * first + 1) + [offsets[-1].bit_length()] + block(offsets, offsets[-1].bit_length())


# Rows (code, numbers, bytes): each list is written as these bytes, and these bytes are read as the list.
EXAMPLES = [
    (0, [7, 7, 7], [14, 14, 14]),
    (1, [7, 7, 7], [3, 14]),
    (2, [7, 7, 7], [14, 0]),
    (3, [7, 7, 7], [14, 0, 7]),
    (4, [7, 7, 7], [14, 0, 0]),
    (5, [7, 7, 7], [14, 0, 0]),
    (6, [7, 7, 7], [1, 14]),
    (2, [5, 6, 5, -1], [1, 3, 190, 1]),
    (6, [5, 6, 5, -1], [3, 1, 5, 0, 25]),
    (2, [1, 0], [0, 1, 1]),
    # 1 2 3 with width 2, as the bunch behind a run.
    (3, [0] * 8 + [1, 2, 3], [0, 2, 16, 0, 7, 57]),
]

SHORT_AND_SIGNED = [
    (0, [0, -1, 1, -2, -64], [0, 1, 2, 3, 127]),
    (0, [63, 64, -65, 150], [126, 128, 1, 129, 1, 172, 2]),
    (0, [8191, -8192, 8192], [254, 127, 255, 127, 128, 128, 1]),
    (1, [9] * 127, [127, 18]),
    (1, [9] * 128, [128, 1, 18]),
    (1, [9] * 300, [172, 2, 18]),
    (1, [9] * 500, [244, 3, 18]),
]

ORDINARY = [
    (0, [3, -5, 1000, 3], [6, 9, 208, 15, 6]),
    (1, [5, 5, 7, 5], [2, 10, 1, 14, 1, 10]),
    (1, [0], [1, 0]),
    (1, [0, 0, -1, -1, -1], [2, 0, 3, 1]),
    (2, [0, 6], [0, 3, 48]),
    (2, [0, 1, 1], [0, 1, 6]),
    (2, [0, 255], [0, 8, 0, 255]),
    (2, [0, 256], [0, 9, 0, 0, 2]),
    (2, [-3, -3, -1, -2], [5, 2, 96]),
    (2, [10, 11, 10, 11, 10, 11, 10, 11], [20, 1, 170]),
    (2, [10, 11, 10, 11, 10, 11, 10, 11, 11], [20, 1, 170, 1]),
    (3, [5, 4, 6], [8, 2, 7, 33]),
    (4, [10, 12, 9, 9, 109], [20, 4, 5, 0, 200, 1]),
    (5, [10, 12, 9, 9], [20, 5, 3, 197, 0]),
    (5, [10, 12], [20, 4, 0]),
    (5, [-7], [13]),
    (6, [9], [1, 18]),
    (6, [9, 4, 9, 9], [2, 8, 4, 13]),
    (6, [2, 0, 1], [3, 0, 0, 0, 18]),
]

# Stretches of 7, 8 and 9 members in code 3: the offsets of 4 and of 1 2 are 3 and 0 1, with width 2.
STRETCHES = [
    (3, [4] * 7 + [1, 2], [2, 2, 19] + block([3] * 7 + [0, 1], 2)),
    (3, [4] * 8 + [1, 2], [2, 2, 16, 3, 5, 4]),
    (3, [4] * 9 + [1, 2], [2, 2, 18, 3, 5, 4]),
    (3, [1, 2] + [4] * 7 + [2, 1], [2, 2, 23] + block([0, 1] + [3] * 7 + [1, 0], 2)),
    (3, [1, 2] + [4] * 8 + [2, 1], [2, 2, 5, 4, 16, 3, 5, 1]),
    (3, [1, 2] + [4] * 9 + [2, 1], [2, 2, 5, 4, 18, 3, 5, 1]),
    (3, [1, 2] + [4] * 7, [2, 2, 19] + block([0, 1] + [3] * 7, 2)),
    (3, [1, 2] + [4] * 8, [2, 2, 5, 4, 16, 3]),
    (3, [1, 2] + [4] * 9, [2, 2, 5, 4, 18, 3]),
    (3, [6] * 7, [12, 0, 15]),
    (3, [6] * 8, [12, 0, 16]),
    (3, [6] * 9, [12, 0, 18]),
    (3, [1] * 8 + [2] * 8, [2, 1, 16, 0, 16, 1]),
    (3, [1] * 7 + [2] * 7, [2, 1, 29, 128, 63]),
    (3, [1] * 8 + [2] + [1] * 8, [2, 1, 16, 0, 3, 1, 16, 0]),
    (3, [1, 2] * 50, [2, 1, 201, 1] + [170] * 12 + [10]),
    (3, [1, 2] + [1] * 300, [2, 1, 5, 2, 216, 4, 0]),
    (3, [-300] * 500, [215, 4, 0, 232, 7]),
]

PARTS = [
    (5, squares(32), [0] + square_steps(0, 31)),
    (5, squares(33), [0] + square_steps(0, 32)),
    (5, squares(34), [0] + square_steps(0, 32) + [130, 1, 0]),
    (5, squares(65), [0] + square_steps(0, 32) + square_steps(32, 64)),
    (5, squares(66), [0] + square_steps(0, 32) + square_steps(32, 64) + [130, 2, 0]),
    (5, [0] * 33, [0, 0, 0]),
    (5, [0] * 34, [0, 0, 0, 0, 0]),
    (5, [0] * 500, [0] + [0, 0] * 16),
]

ENTRIES = [
    (6, every_third(2), [2, 79, 2, 2]),
    (6, every_third(3), [3, 79, 2, 2, 36]),
    (6, every_third(256), [128, 2, 79] + [2] * 255 + list(range(256))),
    (6, every_third(257), [129, 2, 79] + [2] * 256 + block(range(257), 9)),
    (6, every_third(500), [244, 3, 79] + [2] * 499 + block(range(500), 9)),
    (6, every_third(256)[::-1] + [-40] * 200, [128, 2, 79] + [2] * 255 + list(range(256))[::-1] + [0] * 200),
    (6, [8] * 500, [1, 16]),
    (6, [8] * 499 + [9], [2, 16, 0] + [0] * 62 + [8]),
]

SPAN = GREATEST - LEAST
LEAST_BYTES = [255] * 9 + [1]
GREATEST_BYTES = [254] + [255] * 8 + [1]

ENDS_OF_RANGE = [
    (0, [LEAST, GREATEST], LEAST_BYTES + GREATEST_BYTES),
    (1, [LEAST, GREATEST], [1] + LEAST_BYTES + [1] + GREATEST_BYTES),
    (2, [LEAST, GREATEST], LEAST_BYTES + [64] + [0] * 8 + [255] * 8),
    (2, [LEAST], LEAST_BYTES + [0]),
    (2, [GREATEST], GREATEST_BYTES + [0]),
    (3, [LEAST, GREATEST], LEAST_BYTES + [64, 5] + [0] * 8 + [255] * 8),
    (3, [GREATEST] * 8 + [LEAST], LEAST_BYTES + [64, 16] + [255] * 8 + [3] + [0] * 8),
    (4, [LEAST, GREATEST, LEAST], LEAST_BYTES + [254] + [255] * 8 + [3] + [253] + [255] * 8 + [3]),
    (5, [LEAST, GREATEST], LEAST_BYTES + [254] + [255] * 8 + [3, 0]),
    # The steps are the span and the span below 0, so the first offset is twice the span: 65 digits.
    (5, [LEAST, GREATEST, LEAST], LEAST_BYTES + signed(-SPAN) + [65] + block([2 * SPAN, 0], 65)),
    (5, [GREATEST, LEAST, LEAST], GREATEST_BYTES + signed(-SPAN) + [64] + block([0, SPAN], 64)),
    (6, [LEAST, GREATEST], [2] + LEAST_BYTES + GREATEST_BYTES + [2]),
    (6, [GREATEST, LEAST, GREATEST], [2] + LEAST_BYTES + GREATEST_BYTES + [5]),
]

EMPTY = [(code, [], []) for code in CODES]

VECTORS = EMPTY + EXAMPLES + SHORT_AND_SIGNED + ORDINARY + STRETCHES + PARTS + ENTRIES + ENDS_OF_RANGE


def scattered(count, spread, seed):
    """So many numbers from a fixed row that looks like chance, each within the spread about 0."""
    numbers = []
    state = seed
    for turn in range(count):
        state = (state * 6364136223846793005 + 1442695040888963407) % 2 ** 64
        numbers.append((state >> 11) % (2 * spread + 1) - spread)
    return numbers


# Lists that are written in every code and read back.
LISTS = [
    [], [0], [-1], [LEAST], [GREATEST], [LEAST, GREATEST], [GREATEST, LEAST, 0, LEAST, GREATEST],
    [LEAST] * 20 + [GREATEST] * 20, [LEAST, GREATEST] * 250, [0] * 500, [GREATEST] * 500, [LEAST] * 500,
    squares(32), squares(33), squares(34), squares(65), squares(66), squares(500),
    every_third(256), every_third(257), every_third(500), every_third(500)[::-1],
    [k // 7 for k in range(100)], [k // 8 for k in range(100)], [k // 9 for k in range(100)],
    [GREATEST - k for k in range(40)], [LEAST + k * k for k in range(40)],
    scattered(3, 1, 1), scattered(50, 1, 2), scattered(200, 3, 3), scattered(500, 100, 4),
    scattered(100, 10 ** 6, 5), scattered(77, 2 ** 40, 6), scattered(500, GREATEST, 7),
]

# What may stand behind a list, and is not looked at.
TAILS = [[], [0], [1], [128], [255], [0] * 20, [255] * 20, [128, 0], [16, 0, 3, 1, 14, 0]]

WRONG_CODES = [-1, 7, 8, 255, -7, 10 ** 18, -10 ** 18]
WRONG_PARCEL_CODES = [-1, 8, 9, 255, -7, -8, 10 ** 18, -10 ** 18]
BEYOND = [GREATEST + 1, LEAST - 1, GREATEST + 2, 2 ** 64, -2 ** 64, 10 ** 20, -10 ** 20]


def parcel(code, n, data):
    """The parcel of n numbers that are these bytes in the code."""
    return short(n) + [code] + data


# Rows (code, numbers, bytes): each list has these bytes as its parcel, and these bytes are read as the list.
PARCELS = [(code, numbers, parcel(code, len(numbers), data)) for code, numbers, data in VECTORS]


def touched(self, *args, **kwargs):
    raise AssertionError("what was handed in was changed")


class Sealed(list):
    """A list that can't be changed, not for a while either."""

    append = clear = extend = insert = pop = remove = reverse = sort = touched
    __setitem__ = __delitem__ = __iadd__ = __imul__ = touched


def whole_numbers(answer):
    """Tell whether the answer is one plain list of whole numbers, none of them True or False."""
    return type(answer) is list and all(type(number) is int for number in answer)


def same_again(test, call, *handed):
    """Look at a call by itself: it changes nothing that it gets, and answers the same when it is called again."""
    before = [list(thing) if isinstance(thing, list) else thing for thing in handed]
    answer = call(*handed)
    test.assertEqual(list(handed), before)
    test.assertTrue(whole_numbers(answer))
    kept = list(answer)
    answer.append(-99)
    answer[0] = -99
    sealed = [Sealed(thing) if isinstance(thing, list) else thing for thing in handed]
    test.assertEqual(call(*sealed), kept)
    test.assertEqual(call(*handed), kept)
    test.assertEqual(list(handed), before)
