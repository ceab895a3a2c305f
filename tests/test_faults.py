"""Point 2: decode, where it meets a fault."""

import unittest

from pieces import CODES, GREATEST, LEAST, LISTS, SPAN, block, short, signed
from sevencodes.codes import decode, encode

CUT, SHORT, RANGE, COUNT, STRETCH, WIDTH, PADDING, LEAST_FAULT, ENTRY = range(-11, -20, -1)

ABOVE = signed(GREATEST + 1)
BELOW = signed(LEAST - 1)
TOP = signed(GREATEST)
BOTTOM = signed(LEAST)

EXAMPLES = [
    (0, 1, [128], CUT),
    (0, 1, [], CUT),
    (0, 2, [2, 128, 0], SHORT),
    (1, 3, [1, 14, 2, 14], STRETCH),
    (1, 3, [4, 14], COUNT),
    (2, 2, [0, 1, 3], LEAST_FAULT),
    (2, 2, [0, 2, 1], WIDTH),
    (2, 2, [0, 1, 5], PADDING),
    (2, 2, [0, 1], CUT),
    (6, 2, [2, 0, 0, 0], ENTRY),
]

SHORT_NUMBERS = [
    (0, 1, [255] * 9, CUT),
    (0, 1, [128] * 9, CUT),
    (0, 1, [255] * 10, SHORT),
    (0, 1, [128] * 10, SHORT),
    (0, 1, [255] * 10 + [1], SHORT),
    (0, 1, [255] * 11, SHORT),
    (0, 1, [255] * 9 + [128, 1], SHORT),
    (0, 1, [255] * 9 + [127], RANGE),
    (0, 1, [128] * 9 + [127], RANGE),
    (0, 1, [255] * 9 + [0], SHORT),
    (0, 1, [128] * 9 + [0], SHORT),
    (0, 1, [128, 0], SHORT),
    (0, 1, [255, 0], SHORT),
    (0, 1, [129, 128, 0], SHORT),
    (0, 1, [200, 200, 200, 0], SHORT),
    (0, 1, [128, 128], CUT),
]

PLAIN = [
    (0, 2, [2], CUT),
    (0, 3, [2, 2, 130], CUT),
    (0, 500, [2] * 499, CUT),
    (0, 1, ABOVE, RANGE),
    (0, 1, BELOW, RANGE),
    (0, 2, [0] + ABOVE, RANGE),
    (0, 2, ABOVE + [128, 0], RANGE),
    (0, 2, ABOVE, RANGE),
    (0, 2, [128, 0] + ABOVE, SHORT),
]

RUNS = [
    (1, 1, [], CUT),
    (1, 1, [1], CUT),
    (1, 1, [129], CUT),
    (1, 1, [1, 128], CUT),
    (1, 3, [2, 14], CUT),
    (1, 3, [2, 14, 1], CUT),
    (1, 1, [129, 0, 14], SHORT),
    (1, 1, [255] * 10, SHORT),
    (1, 1, [1, 128, 0], SHORT),
    (1, 1, [1] + ABOVE, RANGE),
    (1, 2, [1, 0, 1] + BELOW, RANGE),
    (1, 1, [0, 14], COUNT),
    (1, 1, [0], COUNT),
    (1, 1, [2, 14], COUNT),
    (1, 1, [2], COUNT),
    (1, 3, [4, 128, 0], COUNT),
    (1, 3, [0, 128, 0], COUNT),
    (1, 3, [2, 14, 2, 16], COUNT),
    (1, 3, [2, 14, 2, 14], COUNT),
    (1, 3, [2, 14, 0, 16], COUNT),
    (1, 3, [2, 14, 0, 14], COUNT),
    (1, 3, [255] * 9 + [127, 14], COUNT),
    (1, 500, [245, 3, 14], COUNT),
    (1, 3, [2, 14, 1, 14], STRETCH),
    (1, 2, [1, 0, 1, 0], STRETCH),
    (1, 4, [1, 14, 1, 16, 2, 16], STRETCH),
    (1, 9, [1, 14, 2, 14], STRETCH),
]

PACK = [
    (2, 1, [], CUT),
    (2, 1, [128], CUT),
    (2, 1, [0], CUT),
    (2, 9, [0, 1, 1], CUT),
    (2, 2, [0, 65], CUT),
    (2, 2, [0, 65] + [0] * 16, CUT),
    (2, 3, [0, 2], CUT),
    (2, 8, [0, 2, 1], CUT),
    (2, 1, [128, 0, 0], SHORT),
    (2, 1, [255] * 10 + [0], SHORT),
    (2, 1, [0, 66], WIDTH),
    (2, 1, [0, 255], WIDTH),
    (2, 2, [0, 66] + [0] * 17, WIDTH),
    (2, 2, [0, 128, 1], WIDTH),
    (2, 2, [128, 0, 66], SHORT),
    (2, 2, [0, 1, 4], PADDING),
    (2, 2, [0, 1, 128], PADDING),
    (2, 2, [0, 1, 7], PADDING),
    (2, 2, [0, 2, 17], PADDING),
    (2, 3, [0, 2, 57 + 64], PADDING),
    (2, 3, [0, 2, 57 + 128], PADDING),
    (2, 9, [0, 1, 1, 2], PADDING),
    (2, 2, ABOVE + [1, 5], PADDING),
    (2, 1, [0, 1, 1], LEAST_FAULT),
    (2, 3, [0, 2, 57], LEAST_FAULT),
    (2, 2, [0, 2, 5], LEAST_FAULT),
    (2, 2, ABOVE + [1, 3], LEAST_FAULT),
    (2, 2, ABOVE + [2, 5], LEAST_FAULT),
    (2, 1, [0, 1, 0], WIDTH),
    (2, 2, [0, 1, 0], WIDTH),
    (2, 3, [0, 3, 8, 0], WIDTH),
    (2, 2, [0, 8, 0, 127], WIDTH),
    (2, 2, [0, 65] + block([0, SPAN], 65), WIDTH),
    (2, 1, ABOVE + [1, 0], WIDTH),
    (2, 2, BELOW + [2, 4], WIDTH),
    (2, 1, ABOVE + [0], RANGE),
    (2, 1, BELOW + [0], RANGE),
    (2, 1, [255] * 9 + [127, 0], RANGE),
    (2, 2, TOP + [1, 2], RANGE),
    (2, 2, TOP + [1, 1], RANGE),
    (2, 2, BELOW + [1, 2], RANGE),
    (2, 2, BOTTOM + [65] + block([0, SPAN + 1], 65), RANGE),
    (2, 2, [1, 64] + block([0, SPAN], 64), RANGE),
]

MIXED = [
    (3, 1, [], CUT),
    (3, 1, [128], CUT),
    (3, 1, [0], CUT),
    (3, 3, [14, 0], CUT),
    (3, 3, [14, 0, 135], CUT),
    (3, 3, [0, 1, 7], CUT),
    (3, 8, [0, 1, 16], CUT),
    (3, 9, [0, 1, 19, 1], CUT),
    (3, 9, [0, 1, 16, 0], CUT),
    (3, 8, [0, 65, 16] + [0] * 8, CUT),
    (3, 1, [128, 0, 0, 3], SHORT),
    (3, 3, [14, 0, 135, 0], SHORT),
    (3, 3, [14, 0] + [255] * 10, SHORT),
    (3, 3, [14, 66], WIDTH),
    (3, 3, [14, 66, 0], WIDTH),
    (3, 3, [14, 255, 7], WIDTH),
    (3, 3, [14, 0, 0], COUNT),
    (3, 3, [14, 0, 1], COUNT),
    (3, 3, [14, 0, 9], COUNT),
    (3, 3, [14, 0, 8], COUNT),
    (3, 9, [14, 0, 20], COUNT),
    (3, 3, [14, 1, 9], COUNT),
    (3, 3, [14, 0] + [255] * 9 + [127], COUNT),
    (3, 9, [0, 1, 16, 0, 5], COUNT),
    (3, 9, [0, 1, 16, 0, 16], COUNT),
    (3, 9, [0, 1, 16, 0, 0], COUNT),
    (3, 9, [0, 1, 16, 0, 1], COUNT),
    (3, 3, [0, 1, 3, 0, 7], COUNT),
    (3, 3, [0, 1, 3, 0, 1], COUNT),
    (3, 7, [14, 0, 14], STRETCH),
    (3, 8, [14, 0, 14], STRETCH),
    (3, 8, [14, 0, 2], STRETCH),
    (3, 8, [0, 1, 14], STRETCH),
    (3, 20, [0, 1, 3, 0, 14], STRETCH),
    (3, 3, [0, 1, 3, 0, 3], STRETCH),
    (3, 3, [0, 1, 3, 0, 5, 1], STRETCH),
    (3, 3, [0, 1, 3, 0, 5, 9], STRETCH),
    (3, 3, ABOVE + [0, 3, 3], STRETCH),
    (3, 9, [0, 1, 16, 0, 3, 0], STRETCH),
    (3, 10, [0, 1, 16, 0, 5, 2], STRETCH),
    (3, 16, [0, 1, 16, 0, 16, 0], STRETCH),
    (3, 16, [14, 0, 16, 16], STRETCH),
    (3, 9, [14, 0, 16, 3], STRETCH),
    (3, 10, [0, 1, 5, 1, 16, 0], STRETCH),
    (3, 9, [0, 1, 3, 0, 16, 0], STRETCH),
    (3, 9, [14, 0, 3, 16], STRETCH),
    (3, 25, [0, 1, 16, 0, 3, 1, 16, 1], STRETCH),
    (3, 8, [14, 0, 17], STRETCH),
    (3, 8, [0, 1, 17, 0], STRETCH),
    (3, 9, [14, 0, 19], STRETCH),
    (3, 9, [0, 1, 19, 0, 1], STRETCH),
    (3, 9, [0, 1, 19, 1, 0], STRETCH),
    (3, 10, [0, 1, 21, 1, 2], STRETCH),
    (3, 8, [0, 1, 17, 255], STRETCH),
    (3, 17, [0, 1, 16, 0, 19] + block([1] * 8 + [0], 1), STRETCH),
    (3, 40, [0, 1, 17, 0], STRETCH),
    (3, 40, [0, 1, 16, 0, 3, 0], STRETCH),
    (3, 8, [0, 1, 16, 2], PADDING),
    (3, 8, [0, 1, 16, 128], PADDING),
    (3, 3, [0, 1, 7, 10], PADDING),
    (3, 9, [0, 1, 16, 0, 3, 2], PADDING),
    (3, 9, [0, 1, 19, 0, 2], PADDING),
    (3, 16, [0, 1, 16, 0, 16, 2], PADDING),
    (3, 1, [0, 1, 3, 1], LEAST_FAULT),
    (3, 1, [0, 2, 3, 1], LEAST_FAULT),
    (3, 8, [0, 1, 16, 1], LEAST_FAULT),
    (3, 9, [0, 2, 16, 1, 3, 2], LEAST_FAULT),
    (3, 1, ABOVE + [1, 3, 1], LEAST_FAULT),
    (3, 1, [0, 1, 3, 0], WIDTH),
    (3, 8, [0, 1, 16, 0], WIDTH),
    (3, 9, [0, 2, 16, 0, 3, 1], WIDTH),
    (3, 9, [0, 2, 16, 1, 3, 0], WIDTH),
    (3, 1, ABOVE + [1, 3, 0], WIDTH),
    (3, 1, ABOVE + [0, 3], RANGE),
    (3, 1, BELOW + [0, 3], RANGE),
    (3, 8, ABOVE + [0, 16], RANGE),
    (3, 2, TOP + [1, 5, 2], RANGE),
    (3, 9, TOP + [1, 16, 0, 3, 1], RANGE),
    (3, 9, TOP + [1, 16, 1, 3, 0], RANGE),
    (3, 2, BELOW + [1, 5, 1], RANGE),
    (3, 2, BOTTOM + [65, 5] + block([0, SPAN + 1], 65), RANGE),
]

STEPS = [
    (4, 1, [], CUT),
    (4, 1, [128], CUT),
    (4, 2, [14], CUT),
    (4, 2, [14, 128], CUT),
    (4, 1, [128, 0], SHORT),
    (4, 2, [14, 128, 0], SHORT),
    (4, 2, [14] + [255] * 10, SHORT),
    (4, 1, ABOVE, RANGE),
    (4, 1, BELOW, RANGE),
    (4, 2, ABOVE + [1], RANGE),
    (4, 2, TOP + [2], RANGE),
    (4, 2, BOTTOM + [1], RANGE),
    (4, 3, TOP + [2, 1], RANGE),
    (4, 3, TOP + [2], RANGE),
    (4, 3, BOTTOM + [1, 128, 0], RANGE),
    (4, 2, BOTTOM + signed(SPAN + 1), RANGE),
    (4, 2, TOP + signed(-SPAN - 1), RANGE),
    (4, 2, [0] + [255] * 9 + [127], RANGE),
    (4, 2, [2] + TOP, RANGE),
]

STEP_BLOCKS = [
    (5, 1, [], CUT),
    (5, 2, [14], CUT),
    (5, 2, [14, 128], CUT),
    (5, 2, [14, 0], CUT),
    (5, 3, [14, 0, 1], CUT),
    (5, 34, [0, 0, 0], CUT),
    (5, 34, [0, 0, 1, 1, 0, 0], CUT),
    (5, 34, [0, 0, 1, 1, 0, 0, 0, 0], CUT),
    (5, 1, [128, 0], SHORT),
    (5, 2, [14, 128, 0, 0], SHORT),
    (5, 2, [14] + [255] * 10 + [0], SHORT),
    (5, 1, ABOVE, RANGE),
    (5, 1, BELOW, RANGE),
    (5, 2, ABOVE + [0, 66], RANGE),
    (5, 2, [14, 0, 66], WIDTH),
    (5, 2, [14, 0, 66] + [0] * 9, WIDTH),
    (5, 2, [14, 0, 65], CUT),
    (5, 3, [14, 0, 1, 5], PADDING),
    (5, 3, [14, 0, 1, 7], PADDING),
    (5, 3, [14, 0, 1, 3], LEAST_FAULT),
    (5, 3, [14, 0, 2, 5], LEAST_FAULT),
    (5, 3, [14, 0, 2, 1], WIDTH),
    (5, 2, [14, 0, 1, 0], WIDTH),
    (5, 2, TOP + [2, 1, 0], WIDTH),
    (5, 2, TOP + [2, 1, 1], LEAST_FAULT),
    (5, 3, TOP + [2, 1, 7], PADDING),
    (5, 34, [0, 0, 0, 0, 66], WIDTH),
    (5, 34, [0, 0, 0, 0, 1, 0], WIDTH),
    (5, 34, [0, 0, 0, 0, 1, 1], LEAST_FAULT),
    (5, 35, [0, 0, 0, 0, 1, 4], PADDING),
    (5, 34, [0, 0, 1, 1, 0, 0, 0, 128, 0, 0], SHORT),
    (5, 2, TOP + [2, 0], RANGE),
    (5, 2, BOTTOM + [1, 0], RANGE),
    (5, 3, TOP + [1, 2] + block([2, 0], 2), RANGE),
    (5, 3, BOTTOM + [1, 2] + block([0, 2], 2), RANGE),
    (5, 2, BOTTOM + signed(SPAN + 1) + [0], RANGE),
    (5, 2, [0] + [255] * 9 + [127, 0], RANGE),
    (5, 34, TOP + [2, 0], RANGE),
    (5, 34, TOP + [2, 0, 0, 66], RANGE),
    (5, 34, TOP + [0, 0, 2, 0], RANGE),
    (5, 33, signed(GREATEST - 31) + [2, 0], RANGE),
    (5, 34, signed(GREATEST - 32) + [2, 0, 2, 0], RANGE),
]

ENTRIES = [
    (6, 1, [], CUT),
    (6, 1, [129], CUT),
    (6, 1, [1], CUT),
    (6, 2, [2, 0], CUT),
    (6, 2, [2, 0, 128], CUT),
    (6, 2, [2, 0, 0], CUT),
    (6, 9, [2, 0, 0, 1], CUT),
    (6, 3, [3, 0, 0, 0], CUT),
    (6, 1, [129, 0, 14], SHORT),
    (6, 1, [1, 128, 0], SHORT),
    (6, 2, [2, 0, 128, 0], SHORT),
    (6, 2, [2, 0] + [255] * 10, SHORT),
    (6, 1, [0], COUNT),
    (6, 1, [0, 14], COUNT),
    (6, 1, [2], COUNT),
    (6, 2, [3, 0, 0, 0, 36], COUNT),
    (6, 2, [3, 128, 0], COUNT),
    (6, 500, [245, 3], COUNT),
    (6, 2, [255] * 9 + [127], COUNT),
    (6, 1, [1] + ABOVE, RANGE),
    (6, 1, [1] + BELOW, RANGE),
    (6, 2, [2] + ABOVE + [128, 0], RANGE),
    (6, 2, [2] + TOP + [0], RANGE),
    (6, 2, [2] + TOP + [0, 2], RANGE),
    (6, 3, [3] + TOP + [0, 128, 0], RANGE),
    (6, 2, [2] + BOTTOM + short(SPAN) + [2], RANGE),
    (6, 2, [2, 0] + [255] * 9 + [127], RANGE),
    (6, 3, [3] + signed(GREATEST - 1) + [0, 0], RANGE),
    (6, 2, [2, 0, 0, 4], PADDING),
    (6, 2, [2, 0, 0, 6], PADDING),
    (6, 2, [2, 0, 0, 128], PADDING),
    (6, 3, [3, 0, 0, 0, 63 + 64], PADDING),
    (6, 2, [2, 0, 0, 3], ENTRY),
    (6, 4, [2, 0, 0, 0], ENTRY),
    (6, 3, [3, 0, 0, 0] + block([0, 1, 3], 2), ENTRY),
    (6, 4, [3, 0, 0, 0] + block([0, 1, 2, 3], 2), ENTRY),
    (6, 4, [3, 0, 0, 0] + block([3, 2, 1, 0], 2), ENTRY),
    (6, 4, [3, 0, 0, 0] + block([0, 1, 1, 0], 2), ENTRY),
    (6, 4, [3, 0, 0, 0] + block([2, 1, 2, 1], 2), ENTRY),
    (6, 4, [3, 0, 0, 0] + block([0, 2, 2, 0], 2), ENTRY),
    (6, 257, [129, 2, 0] + [0] * 256 + block(list(range(256)) + [257], 9), ENTRY),
    (6, 257, [129, 2, 0] + [0] * 256 + block(list(range(256)) + [255], 9), ENTRY),
]

# What stands just beside a fault and is none: (code, n, bytes, numbers).
NO_FAULTS = [
    (0, 1, [255] * 9 + [1], [LEAST]),
    (0, 1, [254] + [255] * 8 + [1], [GREATEST]),
    (0, 1, [255] * 8 + [127], [-2 ** 62]),
    (0, 1, [0], [0]),
    (0, 2, [0, 0], [0, 0]),
    (1, 3, [1, 14, 1, 16, 1, 14], [7, 8, 7]),
    (2, 1, [14, 0], [7]),
    (2, 2, signed(GREATEST - 1) + [1, 2], [GREATEST - 1, GREATEST]),
    (3, 7, [14, 0, 15], [7] * 7),
    (3, 10, [0, 1, 5, 1, 16, 1], [1, 0] + [1] * 8),
    (3, 10, [0, 1, 16, 0, 5, 1], [0] * 8 + [1, 0]),
    (3, 9, [0, 1, 19, 128, 1], [0] * 7 + [1, 1]),
    (3, 15, [0, 1, 31, 128, 63], [0] * 7 + [1] * 7 + [0]),
    (3, 2, signed(GREATEST - 1) + [1, 5, 2], [GREATEST - 1, GREATEST]),
    (4, 3, BOTTOM + signed(SPAN) + signed(-SPAN), [LEAST, GREATEST, LEAST]),
    (5, 33, signed(GREATEST - 32) + [2, 0], [GREATEST - 32 + k for k in range(33)]),
    (5, 34, signed(GREATEST - 33) + [2, 0, 2, 0], [GREATEST - 33 + k for k in range(34)]),
    (6, 2, [2] + BOTTOM + short(SPAN - 1) + [1], [GREATEST, LEAST]),
    (6, 4, [3, 0, 0, 0] + block([0, 1, 2, 2], 2), [0, 1, 2, 2]),
]

FAULTS = EXAMPLES + SHORT_NUMBERS + PLAIN + RUNS + PACK + MIXED + STEPS + STEP_BLOCKS + ENTRIES

SMALL_BYTES = [0, 1, 2, 3, 5, 7, 14, 15, 16, 17, 65, 66, 127, 128, 129, 255]


class Met(unittest.TestCase):
    def test_faults(self):
        for code, n, data, refusal in FAULTS:
            with self.subTest(code=code, n=n, data=data):
                self.assertEqual(decode(code, n, data), [refusal])

    def test_a_fault_other_than_a_cut_does_not_look_behind_itself(self):
        for code, n, data, refusal in FAULTS:
            if refusal != CUT:
                for tail in [[0], [255] * 12, [128, 0]]:
                    with self.subTest(code=code, n=n, data=data, tail=tail):
                        self.assertEqual(decode(code, n, data + tail), [refusal])

    def test_what_stands_beside_a_fault(self):
        for code, n, data, numbers in NO_FAULTS:
            with self.subTest(code=code, n=n, data=data):
                self.assertEqual(decode(code, n, data), [len(data)] + numbers)

    def test_every_front_part_of_a_written_list_is_a_cut(self):
        for code in CODES:
            for numbers in LISTS:
                data = encode(code, numbers)[1:]
                for size in [k for k in range(len(data)) if k < 40 or k % 97 == 0 or k > len(data) - 12]:
                    self.assertEqual(decode(code, len(numbers), data[:size]), [CUT], (code, numbers, size))


class JustWhatIsWritten(unittest.TestCase):
    """Whatever decode takes is what encode writes."""

    def look(self, code, n, data):
        answer = decode(code, n, data)
        if answer[0] < 0:
            self.assertEqual(len(answer), 1)
            self.assertIn(answer[0], range(-19, -10))
        else:
            self.assertEqual(len(answer), n + 1)
            self.assertEqual(encode(code, answer[1:]), answer[:1] + data[:answer[0]], (code, n, data))

    def test_rows_of_few_bytes(self):
        rows = [[]]
        for size in range(4):
            for row in rows:
                for code in CODES:
                    for n in [1, 2, 8]:
                        self.look(code, n, row)
            rows = [row + [byte] for row in rows for byte in SMALL_BYTES] if size < 3 else []

    def test_written_lists_with_one_byte_changed(self):
        for code in CODES:
            for numbers in LISTS:
                data = encode(code, numbers)[1:]
                if len(data) <= 120:
                    for place in range(len(data)):
                        for change in [1, 2, 127, 128, 255]:
                            changed = list(data)
                            changed[place] = (changed[place] + change) % 256
                            self.look(code, len(numbers), changed)

    def test_written_lists_read_as_longer_or_shorter_or_in_another_code(self):
        for code in CODES:
            for numbers in LISTS:
                data = encode(code, numbers)[1:]
                for other in CODES:
                    for n in [len(numbers) - 1, len(numbers), len(numbers) + 1]:
                        if 0 <= n <= 500:
                            self.look(other, n, data + [0, 1, 0])


if __name__ == "__main__":
    unittest.main()
