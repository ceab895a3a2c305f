"""Point 9: join."""

import unittest

from broken import PARCEL_FAULTS
from pieces import CODES, GREATEST, LEAST, LISTS, PARCELS, WRONG_PARCEL_CODES, same_again, scattered, whole_numbers
from sevencodes.codes import join, pack, sizes

SEVENS = [3, 1, 3, 14]
TWO = [2, 4, 14, 2]
TOO_MANY = [0] * 6001

# One parcel of each kind of fault: (bytes, the refusal).
EACH_KIND = [
    ([], -11), ([128, 0], -12), ([1, 4, 255, 255, 255, 255, 255, 255, 255, 255, 255, 127], -13), ([245, 3], -14),
    ([2, 1, 1, 0, 1, 0], -15), ([2, 2, 0, 66], -16), ([2, 2, 0, 1, 5], -17), ([2, 2, 0, 1, 3], -18),
    ([2, 6, 2, 0, 0, 0], -19), ([0, 0, 9], -20), ([0, 7], -21),
]


class Written(unittest.TestCase):
    def test_two_parcels_into_every_code(self):
        # 7 7 7 and 7 8 together.
        answers = [
            [5, 0, 14, 14, 14, 14, 16], [5, 1, 4, 14, 1, 16], [5, 2, 14, 1, 16], [5, 3, 14, 1, 11, 16],
            [5, 4, 14, 0, 0, 0, 2], [5, 5, 14, 0, 1, 8], [5, 6, 2, 14, 0, 16],
        ]
        for code in CODES:
            self.assertEqual(join(code, SEVENS, TWO), [len(answers[code])] + answers[code])
        self.assertEqual(join(7, SEVENS, TWO), [5, 5, 2, 14, 1, 16])

    def test_the_first_stands_before_the_second(self):
        self.assertEqual(join(0, [2, 0, 2, 4], [1, 4, 6]), [5, 3, 0, 2, 4, 6])
        self.assertEqual(join(0, [1, 4, 6], [2, 0, 2, 4]), [5, 3, 0, 6, 2, 4])

    def test_parcels_in_different_codes(self):
        for k, numbers in enumerate(LISTS):
            others = LISTS[(k * 5 + 3) % len(LISTS)]
            if len(numbers) + len(others) > 500:
                others = others[:500 - len(numbers)]
            for code in range(8):
                answer = pack(code, numbers + others)
                for first in CODES:
                    second = (3 * first + code) % 7
                    self.assertEqual(join(code, pack(first, numbers)[1:], pack(second, others)[1:]), answer)

    def test_the_best_code_is_the_best_for_all_together(self):
        # 1000 and 1001 are the best in code 0 each, and in code 4 together.
        self.assertEqual([pack(7, [1000])[2], pack(7, [1001])[2]], [0, 0])
        self.assertEqual(join(7, [1, 0, 208, 15], [1, 0, 210, 15]), [5, 2, 4, 208, 15, 2])
        # Many 8 are the best in code 1 up to 127, and in code 2 from 128 on.
        self.assertEqual(join(7, [127, 1, 127, 16], [1, 0, 16]), [5, 128, 1, 2, 16, 0])

    def test_no_number_in_one_or_in_both(self):
        for tag in CODES:
            for code in CODES:
                self.assertEqual(join(code, [0, tag], [0, 6 - tag]), [2, 0, code])
                self.assertEqual(join(code, [0, tag], SEVENS), pack(code, [7, 7, 7]))
                self.assertEqual(join(code, SEVENS, [0, tag]), pack(code, [7, 7, 7]))
            self.assertEqual(join(7, [0, tag], [0, tag]), [2, 0, 0])
            self.assertEqual(join(7, SEVENS, [0, tag]), [4] + SEVENS)

    def test_together_500_numbers(self):
        for front in [0, 1, 127, 128, 250, 499, 500]:
            numbers = scattered(500, 1000, front + 1)
            for code in range(8):
                answer = join(code, pack(code % 7, numbers[:front])[1:], pack(7, numbers[front:])[1:])
                self.assertEqual(answer, pack(code, numbers))

    def test_the_same_list_as_first_and_second(self):
        self.assertEqual(join(1, SEVENS, SEVENS), [4, 6, 1, 6, 14])
        for code, numbers, data in PARCELS:
            if len(numbers) <= 250:
                same_again(self, join, code, data, data)
                self.assertEqual(join(code, data, data), pack(code, numbers + numbers))

    def test_both_ends_of_the_range(self):
        for code in range(8):
            answer = join(code, pack(0, [LEAST])[1:], pack(2, [GREATEST])[1:])
            self.assertEqual(answer, pack(code, [LEAST, GREATEST]))

    def test_the_best_code_is_that_of_sizes(self):
        for numbers in LISTS:
            middle = len(numbers) // 2
            answer = join(7, pack(5, numbers[:middle])[1:], pack(6, numbers[middle:])[1:])
            self.assertTrue(whole_numbers(answer))
            self.assertEqual(answer, pack(sizes(numbers)[0], numbers))

    def test_names_of_the_arguments(self):
        self.assertEqual(join(code=1, first=SEVENS, second=[1, 0, 2]), [6, 4, 1, 3, 14, 1, 2])


class Refused(unittest.TestCase):
    def test_codes(self):
        for code in WRONG_PARCEL_CODES:
            self.assertEqual(join(code, SEVENS, TWO), [-1])
            self.assertEqual(join(code, [0, 0], [0, 0]), [-1])

    def test_more_than_6000_bytes(self):
        for code in range(8):
            for size in [6001, 6002, 7000]:
                self.assertEqual(join(code, [0] * size, SEVENS), [-3])
                self.assertEqual(join(code, SEVENS, [0] * size), [-3])
                self.assertEqual(join(code, [0] * size, [0] * size), [-3])
            self.assertEqual(join(code, [0] * 6000, SEVENS), [-20])
            self.assertEqual(join(code, SEVENS, [0] * 6000), [-20])

    def test_a_fault_in_one_of_them(self):
        for data, kind, place in PARCEL_FAULTS:
            with self.subTest(data=data):
                self.assertEqual(join(3, data, SEVENS), [-10 - kind])
                self.assertEqual(join(7, SEVENS, data), [-10 - kind])

    def test_both_wrong_the_first_is_looked_at_first(self):
        for code in range(8):
            for data, refusal in EACH_KIND:
                self.assertEqual(join(code, data, TOO_MANY), [refusal])
                self.assertEqual(join(code, TOO_MANY, data), [-3])
                for other, later in EACH_KIND:
                    self.assertEqual(join(code, data, other), [refusal])

    def test_more_than_500_numbers_together(self):
        for first, second in [(1, 500), (500, 1), (250, 251), (500, 500), (128, 373), (499, 2)]:
            for code in range(8):
                answer = join(code, pack(2, [5] * first)[1:], pack(1, [6] * second)[1:])
                self.assertEqual(answer, [-2], (code, first, second))

    def test_the_code_is_looked_at_first(self):
        for code in WRONG_PARCEL_CODES:
            self.assertEqual(join(code, TOO_MANY, TOO_MANY), [-1])
            self.assertEqual(join(code, [], SEVENS), [-1])
            self.assertEqual(join(code, SEVENS, []), [-1])
            self.assertEqual(join(code, [244, 3, 2, 14, 0], SEVENS), [-1])

    def test_how_many_there_are_together_is_looked_at_last(self):
        many = [244, 3, 2, 14, 0]
        for code in range(8):
            self.assertEqual(join(code, many, [3, 1, 3, 14, 9]), [-20])
            self.assertEqual(join(code, many, TOO_MANY), [-3])
            self.assertEqual(join(code, many + [9], many), [-20])
            self.assertEqual(join(code, many, many), [-2])


class ByItself(unittest.TestCase):
    def test_parcels_faults_and_refusals(self):
        for code in [-1, 0, 3, 6, 7, 8]:
            for k, row in enumerate(PARCELS):
                same_again(self, join, code, row[2], PARCELS[-1 - k][2])
            for data, refusal in EACH_KIND + [(TOO_MANY, -3)]:
                same_again(self, join, code, data, list(SEVENS))
                same_again(self, join, code, list(SEVENS), data)


if __name__ == "__main__":
    unittest.main()
