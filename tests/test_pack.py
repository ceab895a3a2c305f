"""Point 5: pack."""

import unittest

from pieces import (BEYOND, CODES, GREATEST, LEAST, LISTS, PARCELS, WRONG_PARCEL_CODES, same_again, scattered, short,
                    whole_numbers)
from sevencodes.codes import encode, pack, sizes, unpack

FAR = 10 ** 15

# Rows (numbers, the best code, the parcel in it); where several codes are the best the first stands there.
BEST = [
    ([], 0, [0, 0]),
    ([0], 0, [1, 0, 0]),
    ([150], 0, [1, 0, 172, 2]),
    ([7, 7, 7], 1, [3, 1, 3, 14]),
    ([5, 6, 5, -1], 0, [4, 0, 10, 12, 10, 1]),
    ([8] * 127, 1, [127, 1, 127, 16]),
    ([8] * 128, 2, [128, 1, 2, 16, 0]),
    ([8] * 500, 2, [244, 3, 2, 16, 0]),
    ([10, 11, 10, 11, 10, 11, 10, 11], 2, [8, 2, 20, 1, 170]),
    ([1] * 8 + [2] + [1] * 8, 2, [17, 2, 2, 1, 0, 1, 0]),
    ([-300] * 30 + [-299, -298, -297] + [-300] * 30, 3, [63, 3, 215, 4, 2, 60, 0, 7, 57, 60, 0]),
    ([1000, 1001], 4, [2, 4, 208, 15, 2]),
    ([1000 * k for k in range(33)], 5, [33, 5, 0, 208, 15, 0]),
    ([0, FAR, 0, 0, FAR], 6, [5, 6, 2, 0] + short(FAR - 1) + [18]),
]


class Written(unittest.TestCase):
    def test_lists_have_these_parcels(self):
        for code, numbers, data in PARCELS:
            with self.subTest(code=code, numbers=numbers):
                self.assertEqual(pack(code, numbers), [len(data)] + data)

    def test_no_number(self):
        for code in CODES:
            self.assertEqual(pack(code, []), [2, 0, code])
        self.assertEqual(pack(7, []), [2, 0, 0])

    def test_length_and_tag_stand_before_what_encode_writes(self):
        for count, front in [(0, [0]), (1, [1]), (127, [127]), (128, [128, 1]), (500, [244, 3])]:
            for numbers in [[-9] * count, list(range(count)), scattered(count, GREATEST, 8)]:
                for code in CODES:
                    data = front + [code] + encode(code, numbers)[1:]
                    self.assertEqual(pack(code, numbers), [len(data)] + data)

    def test_what_was_packed_is_unpacked(self):
        for count in [0, 1, 127, 128, 500]:
            for numbers in [[-9] * count, list(range(count)), scattered(count, GREATEST, 8)]:
                for code in range(8):
                    self.assertEqual(unpack(pack(code, numbers)[1:]), [count] + numbers)

    def test_the_best_code(self):
        for numbers, best, data in BEST:
            with self.subTest(numbers=numbers):
                self.assertEqual(pack(7, numbers), [len(data)] + data)
                self.assertEqual(pack(best, numbers), [len(data)] + data)

    def test_the_best_code_is_that_of_sizes(self):
        for numbers in LISTS + [row[0] for row in BEST]:
            self.assertEqual(pack(7, numbers), pack(sizes(numbers)[0], numbers))
            self.assertEqual(pack(7, numbers)[0], min(pack(code, numbers)[0] for code in CODES))

    def test_each_code_is_the_best_once(self):
        self.assertEqual(sorted({best for numbers, best, data in BEST}), list(CODES))

    def test_the_answer_is_a_list_of_bytes_with_their_count(self):
        for code in range(8):
            for numbers in LISTS:
                answer = pack(code, numbers)
                self.assertTrue(whole_numbers(answer))
                self.assertEqual(answer[0], len(answer) - 1)
                self.assertTrue(all(0 <= byte <= 255 for byte in answer[1:]))

    def test_names_of_the_arguments(self):
        self.assertEqual(pack(code=4, numbers=[7, 8]), [4, 2, 4, 14, 2])


class Refused(unittest.TestCase):
    def test_codes(self):
        for code in WRONG_PARCEL_CODES:
            with self.subTest(code=code):
                self.assertEqual(pack(code, [1, 2]), [-1])
                self.assertEqual(pack(code, []), [-1])

    def test_more_than_500_numbers(self):
        for code in range(8):
            for count in [501, 502, 600]:
                with self.subTest(code=code, count=count):
                    self.assertEqual(pack(code, [3] * count), [-2])
                    self.assertEqual(pack(code, list(range(count))), [-2])

    def test_numbers_out_of_range(self):
        for code in range(8):
            for number in BEYOND:
                with self.subTest(code=code, number=number):
                    self.assertEqual(pack(code, [number]), [-4])
                    self.assertEqual(pack(code, [0, number, 0]), [-4])
                    self.assertEqual(pack(code, [0] * 499 + [number]), [-4])
            self.assertEqual(unpack(pack(code, [LEAST, GREATEST])[1:]), [2, LEAST, GREATEST])

    def test_several_at_once(self):
        for code in WRONG_PARCEL_CODES:
            self.assertEqual(pack(code, [0] * 501), [-1])
            self.assertEqual(pack(code, [GREATEST + 1]), [-1])
            self.assertEqual(pack(code, [10 ** 20] * 600), [-1])
        for code in range(8):
            self.assertEqual(pack(code, [GREATEST + 1] * 501), [-2])
            self.assertEqual(pack(code, [-10 ** 20] + [0] * 599), [-2])
            self.assertEqual(pack(code, [-10 ** 20] + [0] * 499), [-4])


class ByItself(unittest.TestCase):
    def test_lists_and_refusals(self):
        for code in range(-1, 9):
            for numbers in LISTS + [[3] * 501, [1, GREATEST + 1, 0]]:
                same_again(self, pack, code, numbers)


if __name__ == "__main__":
    unittest.main()
