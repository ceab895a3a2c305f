"""Point 3: fault."""

import unittest

from broken import CUT, FAULTS, NO_FAULTS
from pieces import CODES, LISTS, TAILS, VECTORS, WRONG_CODES, same_again, whole_numbers
from sevencodes.codes import decode, encode, fault

EXAMPLES = [
    (0, 1, [128], [1, 1]),
    (0, 1, [], [1, 0]),
    (0, 2, [2, 128, 0], [2, 1]),
    (1, 3, [1, 14, 2, 14], [5, 3]),
    (1, 3, [4, 14], [4, 0]),
    (2, 2, [0, 1, 1], [0]),
    (2, 2, [0, 1, 3], [8, 0]),
    (2, 2, [0, 2, 1], [6, 1]),
    (2, 2, [0, 1, 5], [7, 2]),
    (2, 2, [0, 1], [1, 2]),
    (6, 2, [2, 0, 0, 0], [9, 3]),
]


class Told(unittest.TestCase):
    def test_the_examples_of_the_document(self):
        for code, n, data, answer in EXAMPLES:
            with self.subTest(code=code, n=n, data=data):
                self.assertEqual(fault(code, n, data), answer)

    def test_kinds_and_places(self):
        for code, n, data, kind, place in FAULTS:
            with self.subTest(code=code, n=n, data=data):
                self.assertEqual(fault(code, n, data), [kind, place])

    def test_what_stands_behind_a_fault_does_not_move_it(self):
        for code, n, data, kind, place in FAULTS:
            if kind != CUT:
                for tail in TAILS:
                    with self.subTest(code=code, n=n, data=data, tail=tail):
                        self.assertEqual(fault(code, n, data + tail), [kind, place])

    def test_the_place_of_a_cut_is_the_end(self):
        for code in CODES:
            self.assertEqual(fault(code, 1, []), [1, 0])
            self.assertEqual(fault(code, 500, []), [1, 0])
            for size in range(1, 10):
                self.assertEqual(fault(code, 1, [255] * size), [1, size])
                self.assertEqual(fault(code, 500, [128] * size), [1, size])

    def test_every_front_part_of_a_written_list_is_a_cut_at_its_end(self):
        for code in CODES:
            for numbers in LISTS:
                data = encode(code, numbers)[1:]
                for size in [k for k in range(len(data)) if k < 40 or k % 97 == 0 or k > len(data) - 12]:
                    self.assertEqual(fault(code, len(numbers), data[:size]), [1, size], (code, numbers, size))

    def test_names_of_the_arguments(self):
        self.assertEqual(fault(code=1, n=3, data=[4, 14]), [4, 0])


class NoneThere(unittest.TestCase):
    def test_written_lists_have_no_fault(self):
        for code, numbers, data in VECTORS:
            for tail in TAILS:
                with self.subTest(code=code, numbers=numbers, tail=tail):
                    self.assertEqual(fault(code, len(numbers), data + tail), [0])

    def test_lists_of_0_and_1_and_500_numbers(self):
        for code in CODES:
            for numbers in LISTS:
                if len(numbers) in (0, 1, 500):
                    data = encode(code, numbers)[1:]
                    for tail in TAILS + [[255] * (6000 - len(data))]:
                        self.assertEqual(fault(code, len(numbers), data + tail), [0])

    def test_no_number_has_no_fault(self):
        for code in CODES:
            for data in [[], [0], [255] * 20, [128, 0], [7] * 6000]:
                self.assertEqual(fault(code, 0, data), [0])

    def test_what_stands_beside_a_fault(self):
        for code, n, data, numbers in NO_FAULTS:
            with self.subTest(code=code, n=n, data=data):
                self.assertEqual(fault(code, n, data), [0])


class AsDecode(unittest.TestCase):
    """Fault tells of just what decode refuses by a fault, and of nothing else."""

    def look(self, code, n, data):
        told = fault(code, n, data)
        read = decode(code, n, data)
        self.assertTrue(whole_numbers(told))
        if read[0] >= 0:
            self.assertEqual(told, [0], (code, n, data))
        else:
            self.assertEqual([-10 - told[0]], read, (code, n, data))
            self.assertEqual(len(told), 2)
            self.assertIn(told[0], range(1, 10))
            self.assertTrue(0 <= told[1] <= len(data))
            self.assertEqual(told[1] == len(data), told[0] == 1, (code, n, data))

    def test_written_lists_with_one_byte_changed(self):
        for code in CODES:
            for numbers in LISTS:
                data = encode(code, numbers)[1:]
                if len(data) <= 120:
                    for place in range(len(data)):
                        for change in [1, 2, 128, 255]:
                            changed = list(data)
                            changed[place] = (changed[place] + change) % 256
                            self.look(code, len(numbers), changed)

    def test_written_lists_read_as_longer_or_shorter_or_in_another_code(self):
        for code in CODES:
            for numbers in LISTS:
                data = encode(code, numbers)[1:]
                for other in CODES:
                    for n in [len(numbers) - 1, len(numbers), len(numbers) + 1]:
                        if 0 <= n <= 500:
                            self.look(other, n, data + [0, 1, 0])


class Refused(unittest.TestCase):
    def test_codes(self):
        for code in WRONG_CODES:
            with self.subTest(code=code):
                self.assertEqual(fault(code, 1, [2]), [-1])
                self.assertEqual(fault(code, 0, []), [-1])

    def test_counts(self):
        for code in CODES:
            for n in [-1, -2, 501, 502, 600, 10 ** 18, -10 ** 18]:
                with self.subTest(code=code, n=n):
                    self.assertEqual(fault(code, n, [2] * 700), [-2])
                    self.assertEqual(fault(code, n, []), [-2])

    def test_more_than_6000_bytes(self):
        for code in CODES:
            for size in [6001, 6002, 7000]:
                with self.subTest(code=code, size=size):
                    self.assertEqual(fault(code, 1, [1] * size), [-3])
                    self.assertEqual(fault(code, 0, [0] * size), [-3])
            self.assertEqual(fault(code, 1, [255] * 6000), [2, 0])

    def test_several_at_once(self):
        for code in WRONG_CODES:
            self.assertEqual(fault(code, 501, [0]), [-1])
            self.assertEqual(fault(code, 1, [0] * 6001), [-1])
            self.assertEqual(fault(code, 1, []), [-1])
            self.assertEqual(fault(code, -10 ** 18, [255] * 7000), [-1])
        for code in CODES:
            self.assertEqual(fault(code, 501, [0] * 6001), [-2])
            self.assertEqual(fault(code, -1, [255] * 7000), [-2])
            self.assertEqual(fault(code, -1, []), [-2])
            self.assertEqual(fault(code, 1, [255] * 6001), [-3])


class ByItself(unittest.TestCase):
    def test_bytes_with_and_without_a_fault(self):
        for code, n, data, kind, place in FAULTS:
            same_again(self, fault, code, n, data)
        for code, numbers, data in VECTORS:
            same_again(self, fault, code, len(numbers), data)

    def test_refusals(self):
        same_again(self, fault, 7, 1, [1])
        same_again(self, fault, 0, 501, [1])
        same_again(self, fault, 0, 1, [1] * 6001)


if __name__ == "__main__":
    unittest.main()
