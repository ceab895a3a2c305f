"""Point 2: decode, where it meets a fault."""

import unittest

from broken import CUT, FAULTS, NO_FAULTS
from pieces import CODES, LISTS
from sevencodes.codes import decode, encode

SMALL_BYTES = [0, 1, 2, 3, 5, 7, 14, 15, 16, 17, 65, 66, 127, 128, 129, 255]


class Met(unittest.TestCase):
    def test_faults(self):
        for code, n, data, kind, place in FAULTS:
            with self.subTest(code=code, n=n, data=data):
                self.assertEqual(decode(code, n, data), [-10 - kind])

    def test_a_fault_other_than_a_cut_does_not_look_behind_itself(self):
        for code, n, data, kind, place in FAULTS:
            if kind != CUT:
                for tail in [[0], [255] * 12, [128, 0]]:
                    with self.subTest(code=code, n=n, data=data, tail=tail):
                        self.assertEqual(decode(code, n, data + tail), [-10 - kind])

    def test_what_stands_beside_a_fault(self):
        for code, n, data, numbers in NO_FAULTS:
            with self.subTest(code=code, n=n, data=data):
                self.assertEqual(decode(code, n, data), [len(data)] + numbers)

    def test_every_front_part_of_a_written_list_is_a_cut(self):
        for code in CODES:
            for numbers in LISTS:
                data = encode(code, numbers)[1:]
                for size in [k for k in range(len(data)) if k < 40 or k % 97 == 0 or k > len(data) - 12]:
                    self.assertEqual(decode(code, len(numbers), data[:size]), [-10 - CUT], (code, numbers, size))


class JustWhatIsWritten(unittest.TestCase):
    """Whatever decode takes is what encode writes."""

    def look(self, code, n, data):
        answer = decode(code, n, data)
        if answer[0] < 0:
            self.assertEqual(len(answer), 1)
            self.assertIn(answer[0], range(-19, -10))
        else:
            self.assertEqual(len(answer), n + 1)
            self.assertEqual(encode(code, answer[1:]), answer[:1] + data[:answer[0]], (code, n, data))

    def test_rows_of_few_bytes(self):
        rows = [[]]
        for size in range(4):
            for row in rows:
                for code in CODES:
                    for n in [1, 2, 8]:
                        self.look(code, n, row)
            rows = [row + [byte] for row in rows for byte in SMALL_BYTES] if size < 3 else []

    def test_written_lists_with_one_byte_changed(self):
        for code in CODES:
            for numbers in LISTS:
                data = encode(code, numbers)[1:]
                if len(data) <= 120:
                    for place in range(len(data)):
                        for change in [1, 2, 127, 128, 255]:
                            changed = list(data)
                            changed[place] = (changed[place] + change) % 256
                            self.look(code, len(numbers), changed)

    def test_written_lists_read_as_longer_or_shorter_or_in_another_code(self):
        for code in CODES:
            for numbers in LISTS:
                data = encode(code, numbers)[1:]
                for other in CODES:
                    for n in [len(numbers) - 1, len(numbers), len(numbers) + 1]:
                        if 0 <= n <= 500:
                            self.look(other, n, data + [0, 1, 0])


if __name__ == "__main__":
    unittest.main()
