"""Point 2: decode, where it reads."""

import contextlib
import io
import unittest

from pieces import CODES, LISTS, TAILS, VECTORS, WRONG_CODES
from sevencodes.codes import decode, encode


class Read(unittest.TestCase):
    def test_these_bytes_are_read_as_lists(self):
        for code, numbers, data in VECTORS:
            with self.subTest(code=code, numbers=numbers):
                self.assertEqual(decode(code, len(numbers), data), [len(data)] + numbers)

    def test_what_stands_behind_is_not_looked_at(self):
        for code, numbers, data in VECTORS:
            for tail in TAILS:
                with self.subTest(code=code, numbers=numbers, tail=tail):
                    self.assertEqual(decode(code, len(numbers), data + tail), [len(data)] + numbers)

    def test_what_was_written_is_read_back(self):
        for code in CODES:
            for numbers in LISTS:
                written = encode(code, numbers)
                for tail in TAILS:
                    with self.subTest(code=code, numbers=numbers, tail=tail):
                        answer = decode(code, len(numbers), written[1:] + tail)
                        self.assertEqual(answer, written[:1] + numbers)

    def test_the_example_with_a_fault_behind_the_list(self):
        self.assertEqual(decode(0, 1, [2, 128, 0]), [1, 1])

    def test_n_is_not_the_length_of_the_written_list(self):
        self.assertEqual(decode(0, 2, [2, 4, 6, 8]), [2, 1, 2])
        self.assertEqual(decode(1, 3, [3, 14, 1, 16]), [2, 7, 7, 7])
        self.assertEqual(decode(4, 2, [2, 2, 2, 2]), [2, 1, 2])
        self.assertEqual(decode(2, 5, [14, 0]), [2, 7, 7, 7, 7, 7])
        self.assertEqual(decode(6, 500, [1, 14]), [2] + [7] * 500)

    def test_no_number_reads_nothing(self):
        for code in CODES:
            for data in [[], [0], [255] * 20, [128, 0], [7] * 6000]:
                self.assertEqual(decode(code, 0, data), [0])

    def test_6000_bytes_are_taken(self):
        for code in CODES:
            for numbers in LISTS:
                written = encode(code, numbers)
                data = written[1:] + [255] * (6000 - written[0])
                self.assertEqual(decode(code, len(numbers), data), written[:1] + numbers)

    def test_500_numbers_are_read(self):
        self.assertEqual(decode(0, 500, [2] * 500), [500] + [1] * 500)

    def test_the_answer_is_a_list_of_whole_numbers(self):
        for code in CODES:
            for numbers in LISTS:
                answer = decode(code, len(numbers), encode(code, numbers)[1:])
                self.assertIs(type(answer), list)
                self.assertEqual({type(number) for number in answer}, {int})

    def test_names_of_the_arguments(self):
        self.assertEqual(decode(code=4, n=2, data=[14, 2, 9]), [2, 7, 8])


class Refused(unittest.TestCase):
    def test_codes(self):
        for code in WRONG_CODES:
            with self.subTest(code=code):
                self.assertEqual(decode(code, 1, [2]), [-1])
                self.assertEqual(decode(code, 0, []), [-1])

    def test_counts(self):
        for code in CODES:
            for n in [-1, -2, 501, 502, 600, 10 ** 18, -10 ** 18]:
                with self.subTest(code=code, n=n):
                    self.assertEqual(decode(code, n, [2] * 700), [-2])
                    self.assertEqual(decode(code, n, []), [-2])

    def test_more_than_6000_bytes(self):
        for code in CODES:
            for size in [6001, 6002, 7000]:
                with self.subTest(code=code, size=size):
                    self.assertEqual(decode(code, 1, [1] * size), [-3])
                    self.assertEqual(decode(code, 0, [0] * size), [-3])

    def test_the_code_is_looked_at_first(self):
        for code in [-1, 7, 10 ** 18]:
            self.assertEqual(decode(code, 501, [0]), [-1])
            self.assertEqual(decode(code, -1, [0]), [-1])
            self.assertEqual(decode(code, 1, [0] * 6001), [-1])
            self.assertEqual(decode(code, 1, []), [-1])
            self.assertEqual(decode(code, -10 ** 18, [255] * 7000), [-1])

    def test_the_count_is_looked_at_before_the_bytes(self):
        for code in CODES:
            self.assertEqual(decode(code, 501, [0] * 6001), [-2])
            self.assertEqual(decode(code, -1, [255] * 7000), [-2])
            self.assertEqual(decode(code, 501, [255] * 10), [-2])

    def test_the_size_is_looked_at_before_faults(self):
        for code in CODES:
            self.assertEqual(decode(code, 1, [255] * 6001), [-3])
            self.assertEqual(decode(code, 1, [255] * 6000), [-12])


class ByItself(unittest.TestCase):
    def test_what_is_handed_in_stays_as_it_was(self):
        for code, numbers, data in VECTORS:
            for handed in [data, data + [9, 9], data[:-1], [255] * 12, [0] * 6001]:
                for n in [len(numbers), -1, 501, 3]:
                    before = list(handed)
                    decode(code, n, handed)
                    self.assertEqual(handed, before)

    def test_the_same_call_has_the_same_answer(self):
        for code in CODES:
            for numbers in LISTS:
                data = encode(code, numbers)[1:]
                answer = decode(code, len(numbers), data)
                kept = list(answer)
                answer.append(-99)
                answer[0] = -99
                self.assertEqual(decode(code, len(numbers), data), kept)

    def test_nothing_is_printed(self):
        shown = io.StringIO()
        with contextlib.redirect_stdout(shown), contextlib.redirect_stderr(shown):
            for code in [-1, 0, 1, 2, 3, 4, 5, 6, 7]:
                for numbers in LISTS:
                    decode(code, len(numbers), encode(code, numbers)[1:])
                    decode(code, 2, [255] * 10)
        self.assertEqual(shown.getvalue(), "")

    def test_a_fault_leaves_nothing_behind(self):
        for code in CODES:
            self.assertEqual(decode(code, 3, [255] * 4), [-11])
            written = encode(code, [7, 7, 8])
            self.assertEqual(decode(code, 3, written[1:]), written[:1] + [7, 7, 8])
            self.assertEqual(decode(code, 3, [255] * 4), [-11])


if __name__ == "__main__":
    unittest.main()
