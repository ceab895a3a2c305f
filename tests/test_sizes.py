"""Point 4: sizes."""

import unittest

from pieces import BEYOND, CODES, GREATEST, LEAST, LISTS, VECTORS, same_again, whole_numbers
from sevencodes.codes import encode, sizes

FAR = 10 ** 15

# Rows (numbers, answer); of several codes of the least size the first is the best.
ROWS = [
    ([], [0, 0, 0, 0, 0, 0, 0, 0]),
    ([0], [0, 1, 2, 2, 3, 1, 1, 2]),
    ([150], [0, 2, 3, 3, 4, 2, 2, 3]),
    ([7, 7, 7], [1, 3, 2, 2, 3, 3, 3, 2]),
    ([5, 6, 5, -1], [0, 4, 8, 4, 5, 4, 5, 5]),
    ([8] * 500, [2, 500, 3, 2, 4, 500, 33, 2]),
    ([LEAST, GREATEST], [0, 20, 22, 27, 28, 20, 21, 22]),
    # Each code by itself the best, from code 0 on.
    ([3, -60, 50], [0, 3, 6, 5, 6, 4, 5, 5]),
    ([1000] * 5 + [2000] * 5, [1, 20, 6, 16, 17, 12, 16, 7]),
    ([100000 + k * 7 % 16 for k in range(16)], [2, 48, 64, 12, 13, 18, 15, 27]),
    ([100000] * 40 + [100001, 100002, 100003] + [100000] * 40, [3, 249, 20, 25, 10, 85, 21, 28]),
    ([1000, 1001], [4, 4, 6, 4, 5, 3, 4, 5]),
    ([1000 * k for k in range(50)], [5, 140, 190, 102, 103, 99, 7, 138]),
    ([0, FAR, 0, 0, FAR, FAR, 0, FAR, 0, FAR], [6, 45, 44, 65, 66, 59, 68, 12]),
]


class Told(unittest.TestCase):
    def test_these_lists_have_these_sizes(self):
        for numbers, answer in ROWS:
            with self.subTest(numbers=numbers):
                self.assertEqual(sizes(numbers), answer)

    def test_each_code_is_the_only_best_one_once(self):
        alone = [row[1][0] for row in ROWS if row[1][1:].count(min(row[1][1:])) == 1]
        self.assertEqual(sorted(set(alone)), list(CODES))

    def test_each_size_is_how_many_bytes_encode_answers(self):
        for numbers in LISTS + [row[1] for row in VECTORS]:
            answer = sizes(numbers)
            self.assertTrue(whole_numbers(answer))
            self.assertEqual(answer[1:], [encode(code, numbers)[0] for code in CODES])

    def test_the_best_code_is_the_first_of_the_least_size(self):
        for numbers in LISTS + [row[1] for row in VECTORS]:
            answer = sizes(numbers)
            self.assertEqual(len(answer), 8)
            best, lengths = answer[0], answer[1:]
            self.assertTrue(all(lengths[best] < length for length in lengths[:best]))
            self.assertTrue(all(lengths[best] <= length for length in lengths[best:]))

    def test_500_numbers_are_taken(self):
        self.assertEqual(sizes([GREATEST] * 500)[0], 2)
        self.assertEqual(sizes([LEAST, GREATEST] * 250)[0], 6)

    def test_names_of_the_arguments(self):
        self.assertEqual(sizes(numbers=[0]), [0, 1, 2, 2, 3, 1, 1, 2])


class Refused(unittest.TestCase):
    def test_more_than_500_numbers(self):
        for count in [501, 502, 600]:
            self.assertEqual(sizes([3] * count), [-2])
            self.assertEqual(sizes(list(range(count))), [-2])

    def test_numbers_out_of_range(self):
        for number in BEYOND:
            with self.subTest(number=number):
                self.assertEqual(sizes([number]), [-4])
                self.assertEqual(sizes([number, 0, 0]), [-4])
                self.assertEqual(sizes([0, number, 0]), [-4])
                self.assertEqual(sizes([0] * 499 + [number]), [-4])

    def test_the_count_is_looked_at_before_the_range(self):
        self.assertEqual(sizes([GREATEST + 1] * 501), [-2])
        self.assertEqual(sizes([-10 ** 20] + [0] * 599), [-2])
        self.assertEqual(sizes([-10 ** 20] + [0] * 499), [-4])


class ByItself(unittest.TestCase):
    def test_lists_and_refusals(self):
        for numbers in LISTS + [[3] * 501, [1, GREATEST + 1, 0]]:
            same_again(self, sizes, numbers)


if __name__ == "__main__":
    unittest.main()
