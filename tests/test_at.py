"""Point 11: at."""

import unittest

from broken import NO_FAULTS, PARCEL_FAULTS
from pieces import CODES, GREATEST, LEAST, LISTS, PARCELS, parcel, same_again, whole_numbers
from sevencodes.codes import at, pack

BIG = 10 ** 18

# The list 5 6 5 -1, in code 6.
FOUR = [4, 6, 3, 1, 5, 0, 25]


class Told(unittest.TestCase):
    def test_each_number_of_a_short_list(self):
        self.assertEqual([at(k, FOUR) for k in range(4)], [[0, 5], [0, 6], [0, 5], [0, -1]])

    def test_first_middle_and_last_in_every_code(self):
        for code in CODES:
            for numbers in LISTS:
                data = pack(code, numbers)[1:]
                for k in sorted({0, 1, len(numbers) // 2, len(numbers) - 2, len(numbers) - 1}):
                    if 0 <= k < len(numbers):
                        self.assertEqual(at(k, data), [0, numbers[k]], (code, k, numbers))

    def test_0_and_below_0_and_both_ends_of_the_range(self):
        numbers = [0, -1, LEAST, GREATEST, 0, -150]
        for code in CODES:
            data = pack(code, numbers)[1:]
            self.assertEqual([at(k, data) for k in range(6)], [[0, number] for number in numbers])

    def test_every_number_of_known_parcels(self):
        for code, numbers, data in PARCELS:
            if len(numbers) <= 40:
                for k, number in enumerate(numbers):
                    self.assertEqual(at(k, data), [0, number])

    def test_what_stands_beside_a_fault(self):
        for code, n, data, numbers in NO_FAULTS:
            self.assertEqual(at(n - 1, parcel(code, n, data)), [0, numbers[-1]])

    def test_the_answer_is_two_whole_numbers(self):
        for code, numbers, data in PARCELS:
            if numbers:
                answer = at(0, data)
                self.assertTrue(whole_numbers(answer))
                self.assertEqual(len(answer), 2)

    def test_names_of_the_arguments(self):
        self.assertEqual(at(k=3, data=FOUR), [0, -1])


class Refused(unittest.TestCase):
    def test_more_than_6000_bytes(self):
        for size in [6001, 6002, 7000]:
            self.assertEqual(at(0, [0] * size), [-3])
            self.assertEqual(at(0, [1] + [0] * (size - 1)), [-3])
        self.assertEqual(at(0, [0] * 6000), [-20])

    def test_faults(self):
        for data, kind, place in PARCEL_FAULTS:
            with self.subTest(data=data):
                self.assertEqual(at(0, data), [-10 - kind])

    def test_places_beyond_the_numbers(self):
        for code in CODES:
            for numbers in LISTS:
                data = pack(code, numbers)[1:]
                for k in [-1, -2, -len(numbers), -BIG, len(numbers), len(numbers) + 1, 501, BIG]:
                    if k < 0 or k >= len(numbers):
                        self.assertEqual(at(k, data), [-5], (code, k, numbers))

    def test_no_number(self):
        for code in CODES:
            for k in [0, 1, -1, 499, BIG, -BIG]:
                self.assertEqual(at(k, [0, code]), [-5])

    def test_several_at_once(self):
        for k in [-1, 4, 5, BIG, -BIG]:
            self.assertEqual(at(k, [255] * 6001), [-3])
            self.assertEqual(at(k, [0] * 7000), [-3])
            self.assertEqual(at(k, FOUR + [9]), [-20])
            self.assertEqual(at(k, FOUR[:-1]), [-11])
            self.assertEqual(at(k, [0, 7]), [-21])
            self.assertEqual(at(k, FOUR), [-5])


class ByItself(unittest.TestCase):
    def test_parcels_faults_and_refusals(self):
        for code, numbers, data in PARCELS:
            for k in [-1, 0, len(numbers) - 1, len(numbers)]:
                same_again(self, at, k, data)
        for data in [[], [0, 7], [0, 0, 9], [3, 1, 4, 14], [0] * 6001]:
            same_again(self, at, 0, data)


if __name__ == "__main__":
    unittest.main()
