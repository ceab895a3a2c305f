"""Point 1: encode."""

import unittest

from pieces import BEYOND, CODES, GREATEST, LISTS, VECTORS, WRONG_CODES
from sevencodes.codes import encode


class Written(unittest.TestCase):
    def test_lists_are_written_as_these_bytes(self):
        for code, numbers, data in VECTORS:
            with self.subTest(code=code, numbers=numbers):
                self.assertEqual(encode(code, numbers), [len(data)] + data)

    def test_the_empty_list_is_no_bytes(self):
        for code in CODES:
            self.assertEqual(encode(code, []), [0])

    def test_the_answer_is_a_list_of_bytes_with_their_count(self):
        for code in CODES:
            for numbers in LISTS:
                answer = encode(code, numbers)
                self.assertIs(type(answer), list)
                self.assertEqual({type(number) for number in answer}, {int})
                self.assertEqual(answer[0], len(answer) - 1)
                self.assertTrue(all(0 <= byte <= 255 for byte in answer[1:]))
                self.assertLessEqual(len(answer), 5600)

    def test_500_numbers_are_taken(self):
        self.assertEqual(encode(0, [1] * 500), [500] + [2] * 500)
        for code in CODES:
            self.assertGreater(encode(code, list(range(500)))[0], 0)

    def test_names_of_the_arguments(self):
        self.assertEqual(encode(code=4, numbers=[7, 8]), [2, 14, 2])


class Refused(unittest.TestCase):
    def test_codes(self):
        for code in WRONG_CODES:
            with self.subTest(code=code):
                self.assertEqual(encode(code, [1, 2]), [-1])
                self.assertEqual(encode(code, []), [-1])

    def test_more_than_500_numbers(self):
        for code in CODES:
            for count in [501, 502, 600]:
                with self.subTest(code=code, count=count):
                    self.assertEqual(encode(code, [3] * count), [-2])
                    self.assertEqual(encode(code, list(range(count))), [-2])

    def test_numbers_out_of_range(self):
        for code in CODES:
            for number in BEYOND:
                with self.subTest(code=code, number=number):
                    self.assertEqual(encode(code, [number]), [-4])
                    self.assertEqual(encode(code, [number, 0, 0]), [-4])
                    self.assertEqual(encode(code, [0, number, 0]), [-4])
                    self.assertEqual(encode(code, [0] * 499 + [number]), [-4])

    def test_the_code_is_looked_at_first(self):
        for code in [-1, 7, 10 ** 18]:
            self.assertEqual(encode(code, [0] * 501), [-1])
            self.assertEqual(encode(code, [GREATEST + 1]), [-1])
            self.assertEqual(encode(code, [10 ** 20] * 600), [-1])

    def test_the_count_is_looked_at_before_the_range(self):
        for code in CODES:
            self.assertEqual(encode(code, [GREATEST + 1] * 501), [-2])
            self.assertEqual(encode(code, [-10 ** 20] + [0] * 599), [-2])
            self.assertEqual(encode(code, [-10 ** 20] + [0] * 499), [-4])


class ByItself(unittest.TestCase):
    def test_what_is_handed_in_stays_as_it_was(self):
        for code in [-1, 0, 1, 2, 3, 4, 5, 6, 7]:
            for numbers in LISTS + [[3] * 501, [1, GREATEST + 1, 0]]:
                before = list(numbers)
                encode(code, numbers)
                self.assertEqual(numbers, before)

    def test_the_same_call_has_the_same_answer(self):
        for code in CODES:
            for numbers in LISTS:
                answer = encode(code, numbers)
                kept = list(answer)
                answer.append(-99)
                answer[0] = -99
                self.assertEqual(encode(code, numbers), kept)

    def test_refusals_leave_nothing_behind(self):
        for refused in [(7, [1]), (0, [1] * 501), (0, [GREATEST + 1])]:
            first = encode(*refused)
            first.append(5)
            self.assertEqual(len(encode(*refused)), 1)


if __name__ == "__main__":
    unittest.main()
