"""Point 10: part."""

import unittest

from broken import PARCEL_FAULTS
from pieces import CODES, GREATEST, LEAST, LISTS, PARCELS, WRONG_PARCEL_CODES, same_again, whole_numbers
from sevencodes.codes import pack, part, sizes

BIG = 10 ** 18

# The list 5 6 5 -1, in code 6.
FOUR = [4, 6, 3, 1, 5, 0, 25]

# What lies beyond the four numbers: (start, count).
BEYOND_FOUR = [
    (-1, 0), (-1, 1), (-1, 4), (-4, 4), (0, -1), (2, -1), (4, -1), (-1, -1), (5, -1), (5, -5), (-1, 5),
    (0, 5), (1, 4), (2, 3), (3, 2), (4, 1), (5, 0), (6, 0), (5, 1),
    (BIG, 0), (0, BIG), (BIG, BIG), (-BIG, 0), (0, -BIG), (-BIG, -BIG), (BIG, -BIG), (-BIG, BIG), (BIG, 4 - BIG),
]


def places(count):
    """Pairs (start, how many) of parts at the front, in the middle, at the end, of all and of none."""
    middle = count // 2
    pairs = [(0, count), (0, 0), (middle, 0), (count, 0), (0, middle), (middle, count - middle)]
    if count > 2:
        pairs += [(0, 1), (1, 1), (count - 1, 1), (1, count - 2), (middle, 1), (1, count - 1), (0, count - 1)]
    return pairs


class Written(unittest.TestCase):
    def test_parts_of_a_short_list(self):
        self.assertEqual(part(0, 0, 2, FOUR), [4, 2, 0, 10, 12])
        self.assertEqual(part(0, 1, 2, FOUR), [4, 2, 0, 12, 10])
        self.assertEqual(part(0, 2, 2, FOUR), [4, 2, 0, 10, 1])
        self.assertEqual(part(0, 3, 1, FOUR), [3, 1, 0, 1])
        self.assertEqual(part(2, 0, 4, FOUR), [6, 4, 2, 1, 3, 190, 1])
        self.assertEqual(part(6, 0, 4, FOUR), [7] + FOUR)
        self.assertEqual(part(7, 0, 4, FOUR), [6, 4, 0, 10, 12, 10, 1])

    def test_part_of_none(self):
        for code in CODES:
            for start in range(5):
                self.assertEqual(part(code, start, 0, FOUR), [2, 0, code])
            self.assertEqual(part(code, 0, 0, [0, 6 - code]), [2, 0, code])
        for start in range(5):
            self.assertEqual(part(7, start, 0, FOUR), [2, 0, 0])
        self.assertEqual(part(7, 0, 0, [0, 6]), [2, 0, 0])

    def test_parts_of_lists_in_every_code(self):
        for numbers in LISTS:
            for source in CODES:
                data = pack(source, numbers)[1:]
                code = (source * 3 + len(numbers)) % 8
                for start, count in places(len(numbers)):
                    answer = pack(code, numbers[start:start + count])
                    self.assertEqual(part(code, start, count, data), answer, (code, start, count, numbers))

    def test_into_every_code(self):
        for numbers in LISTS:
            data = pack(7, numbers)[1:]
            for code in range(8):
                for start, count in places(len(numbers)):
                    self.assertEqual(part(code, start, count, data), pack(code, numbers[start:start + count]))

    def test_the_best_code_is_the_best_for_what_is_taken(self):
        # 8 is the best in code 2 as 128 and more, in code 1 as 127, in code 0 by itself.
        data = [244, 3, 2, 16, 0]
        self.assertEqual(part(7, 100, 128, data), [5, 128, 1, 2, 16, 0])
        self.assertEqual(part(7, 100, 127, data), [4, 127, 1, 127, 16])
        self.assertEqual(part(7, 499, 1, data), [3, 1, 0, 16])
        for numbers in LISTS:
            whole = pack(6, numbers)[1:]
            for start, count in places(len(numbers)):
                taken = numbers[start:start + count]
                self.assertEqual(part(7, start, count, whole), pack(sizes(taken)[0], taken))

    def test_both_ends_of_the_range(self):
        data = pack(4, [LEAST, GREATEST, LEAST])[1:]
        for code in range(8):
            self.assertEqual(part(code, 1, 2, data), pack(code, [GREATEST, LEAST]))

    def test_the_answer_is_a_list_of_bytes_with_their_count(self):
        for code, numbers, data in PARCELS:
            answer = part(code, 0, len(numbers), data)
            self.assertTrue(whole_numbers(answer))
            self.assertEqual(answer, [len(data)] + data)

    def test_names_of_the_arguments(self):
        self.assertEqual(part(code=0, start=1, count=3, data=FOUR), [5, 3, 0, 12, 10, 1])


class Refused(unittest.TestCase):
    def test_codes(self):
        for code in WRONG_PARCEL_CODES:
            self.assertEqual(part(code, 0, 1, FOUR), [-1])
            self.assertEqual(part(code, 0, 0, [0, 0]), [-1])

    def test_more_than_6000_bytes(self):
        for code in range(8):
            for size in [6001, 6002, 7000]:
                self.assertEqual(part(code, 0, 0, [0] * size), [-3])
            self.assertEqual(part(code, 0, 0, [0] * 6000), [-20])

    def test_faults(self):
        for data, kind, place in PARCEL_FAULTS:
            for code in [2, 7]:
                with self.subTest(code=code, data=data):
                    self.assertEqual(part(code, 0, 0, data), [-10 - kind])
                    self.assertEqual(part(code, 0, 1, data), [-10 - kind])

    def test_beyond_the_numbers(self):
        for code in range(8):
            for start, count in BEYOND_FOUR:
                with self.subTest(code=code, start=start, count=count):
                    self.assertEqual(part(code, start, count, FOUR), [-5])

    def test_beyond_no_number_and_beyond_500(self):
        for code in range(8):
            for start, count in [(0, 1), (1, 0), (-1, 0), (0, -1), (-1, 1), (1, -1), (BIG, BIG)]:
                self.assertEqual(part(code, start, count, [0, 3]), [-5])
            for start, count in [(0, 501), (500, 1), (501, 0), (250, 251), (-1, 501), (501, -1)]:
                self.assertEqual(part(code, start, count, [244, 3, 2, 16, 0]), [-5])

    def test_several_at_once(self):
        for code in WRONG_PARCEL_CODES:
            self.assertEqual(part(code, -1, -1, [0] * 6001), [-1])
            self.assertEqual(part(code, 0, 0, []), [-1])
            self.assertEqual(part(code, 0, 5, FOUR), [-1])
        for code in range(8):
            self.assertEqual(part(code, -1, -1, [255] * 6001), [-3])
            self.assertEqual(part(code, BIG, BIG, [0] * 7000), [-3])
            self.assertEqual(part(code, -1, 0, FOUR + [9]), [-20])
            self.assertEqual(part(code, 0, 5, FOUR[:-1]), [-11])
            self.assertEqual(part(code, BIG, BIG, [0, 7]), [-21])


class ByItself(unittest.TestCase):
    def test_parcels_faults_and_refusals(self):
        for code in [-1, 0, 3, 6, 7, 8]:
            for other, numbers, data in PARCELS:
                same_again(self, part, code, 0, len(numbers), data)
                same_again(self, part, code, len(numbers) // 3, len(numbers) // 2, data)
                same_again(self, part, code, 1, len(numbers), data)
            for data in [[], [0, 7], [0, 0, 9], [3, 1, 4, 14], [0] * 6001]:
                same_again(self, part, code, 0, 0, data)


if __name__ == "__main__":
    unittest.main()
