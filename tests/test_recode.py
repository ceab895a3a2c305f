"""Point 8: recode."""

import unittest

from broken import PARCEL_FAULTS
from pieces import CODES, LISTS, PARCELS, WRONG_PARCEL_CODES, same_again, whole_numbers
from sevencodes.codes import pack, recode, sizes

# The list 7 7 7 in each code, and 5 6 5 -1 in two of them, as the document tells them.
SEVENS = [[3, 0, 14, 14, 14], [3, 1, 3, 14], [3, 2, 14, 0], [3, 3, 14, 0, 7], [3, 4, 14, 0, 0], [3, 5, 14, 0, 0],
          [3, 6, 1, 14]]


class Written(unittest.TestCase):
    def test_the_list_of_the_document_from_every_code_into_every_code(self):
        for data in SEVENS:
            for code in CODES:
                self.assertEqual(recode(code, data), [len(SEVENS[code])] + SEVENS[code])
            self.assertEqual(recode(7, data), [4, 3, 1, 3, 14])
        self.assertEqual(recode(6, [4, 2, 1, 3, 190, 1]), [7, 4, 6, 3, 1, 5, 0, 25])
        self.assertEqual(recode(2, [4, 6, 3, 1, 5, 0, 25]), [6, 4, 2, 1, 3, 190, 1])

    def test_no_number(self):
        for tag in CODES:
            for code in CODES:
                self.assertEqual(recode(code, [0, tag]), [2, 0, code])
            self.assertEqual(recode(7, [0, tag]), [2, 0, 0])

    def test_from_every_code_into_every_code(self):
        for numbers in LISTS:
            packed = [pack(code, numbers) for code in range(8)]
            for source in packed:
                for code in range(8):
                    self.assertEqual(recode(code, source[1:]), packed[code])

    def test_into_each_code_with_known_bytes(self):
        for code, numbers, data in PARCELS:
            for other in CODES:
                self.assertEqual(recode(code, pack(other, numbers)[1:]), [len(data)] + data)

    def test_the_best_code_is_the_first_of_the_least_size(self):
        for numbers in LISTS:
            for code in CODES:
                self.assertEqual(recode(7, pack(code, numbers)[1:]), pack(sizes(numbers)[0], numbers))

    def test_the_answer_is_a_list_of_bytes_with_their_count(self):
        for code in range(8):
            for other, numbers, data in PARCELS:
                answer = recode(code, data)
                self.assertTrue(whole_numbers(answer))
                self.assertEqual(answer[0], len(answer) - 1)
                self.assertTrue(all(0 <= byte <= 255 for byte in answer[1:]))

    def test_names_of_the_arguments(self):
        self.assertEqual(recode(code=2, data=[3, 1, 3, 14]), [4, 3, 2, 14, 0])


class Refused(unittest.TestCase):
    def test_codes(self):
        for code in WRONG_PARCEL_CODES:
            self.assertEqual(recode(code, [3, 1, 3, 14]), [-1])
            self.assertEqual(recode(code, [0, 0]), [-1])

    def test_more_than_6000_bytes(self):
        for code in range(8):
            for size in [6001, 6002, 7000]:
                self.assertEqual(recode(code, [0] * size), [-3])
            self.assertEqual(recode(code, [0] * 6000), [-20])

    def test_faults(self):
        for data, kind, place in PARCEL_FAULTS:
            for code in [0, 3, 7]:
                with self.subTest(code=code, data=data):
                    self.assertEqual(recode(code, data), [-10 - kind])

    def test_several_at_once(self):
        for code in WRONG_PARCEL_CODES:
            self.assertEqual(recode(code, [0] * 6001), [-1])
            self.assertEqual(recode(code, [255] * 7000), [-1])
            self.assertEqual(recode(code, []), [-1])
            self.assertEqual(recode(code, [0, 7]), [-1])
        for code in range(8):
            self.assertEqual(recode(code, [255] * 6001), [-3])
            self.assertEqual(recode(code, [0, 7] + [0] * 6998), [-3])


class ByItself(unittest.TestCase):
    def test_parcels_faults_and_refusals(self):
        for code in [-1, 0, 3, 6, 7, 8]:
            for other, numbers, data in PARCELS:
                same_again(self, recode, code, data)
            for data in [[], [0, 7], [0, 0, 9], [3, 1, 4, 14], [0] * 6001]:
                same_again(self, recode, code, data)


if __name__ == "__main__":
    unittest.main()
