"""Point 6: unpack."""

import unittest

from broken import CUT, LEFT, NO_FAULTS, PARCEL_FAULTS
from pieces import CODES, LISTS, PARCELS, parcel, same_again, whole_numbers
from sevencodes.codes import encode, pack, unpack


class Read(unittest.TestCase):
    def test_these_bytes_are_read_as_lists(self):
        for code, numbers, data in PARCELS:
            with self.subTest(code=code, numbers=numbers):
                self.assertEqual(unpack(data), [len(numbers)] + numbers)

    def test_no_number_with_each_tag(self):
        for tag in CODES:
            self.assertEqual(unpack([0, tag]), [0])

    def test_what_was_written_is_read_back(self):
        for code in CODES:
            for numbers in LISTS:
                data = parcel(code, len(numbers), encode(code, numbers)[1:])
                self.assertEqual(unpack(data), [len(numbers)] + numbers)

    def test_500_numbers_are_read(self):
        self.assertEqual(unpack([244, 3, 0] + [2] * 500), [500] + [1] * 500)

    def test_what_stands_beside_a_fault(self):
        for code, n, data, numbers in NO_FAULTS:
            self.assertEqual(unpack(parcel(code, n, data)), [n] + numbers)

    def test_the_answer_is_a_list_of_whole_numbers(self):
        for code in CODES:
            for numbers in LISTS:
                self.assertTrue(whole_numbers(unpack(pack(code, numbers)[1:])))

    def test_names_of_the_arguments(self):
        self.assertEqual(unpack(data=[2, 4, 14, 2]), [2, 7, 8])


class Met(unittest.TestCase):
    def test_faults(self):
        for data, kind, place in PARCEL_FAULTS:
            with self.subTest(data=data):
                self.assertEqual(unpack(data), [-10 - kind])

    def test_what_stands_behind_a_fault_is_not_looked_at(self):
        for data, kind, place in PARCEL_FAULTS:
            if kind not in (CUT, LEFT):
                for tail in [[0], [255] * 12, [128, 0]]:
                    with self.subTest(data=data, tail=tail):
                        self.assertEqual(unpack(data + tail), [-10 - kind])

    def test_all_kinds_are_there(self):
        self.assertEqual(sorted({kind for data, kind, place in PARCEL_FAULTS}), list(range(1, 12)))

    def test_every_front_part_of_a_parcel_is_a_cut(self):
        for code in CODES:
            for numbers in LISTS:
                data = pack(code, numbers)[1:]
                for size in [k for k in range(len(data)) if k < 40 or k % 97 == 0 or k > len(data) - 12]:
                    self.assertEqual(unpack(data[:size]), [-11], (code, numbers, size))

    def test_what_is_taken_is_what_pack_writes(self):
        for code in CODES:
            for numbers in LISTS:
                data = pack(code, numbers)[1:]
                if len(data) <= 60:
                    for place in range(len(data)):
                        for change in [1, 2, 127, 128, 255]:
                            changed = list(data)
                            changed[place] = (changed[place] + change) % 256
                            answer = unpack(changed)
                            if answer[0] >= 0:
                                tag = changed[1] if answer[0] < 128 else changed[2]
                                self.assertEqual(pack(tag, answer[1:]), [len(changed)] + changed)
                            else:
                                self.assertIn(answer, [[-10 - kind] for kind in range(1, 12)])


class Refused(unittest.TestCase):
    def test_more_than_6000_bytes(self):
        for size in [6001, 6002, 7000]:
            for data in [[0] * size, [255] * size, [245, 3] + [7] * (size - 2), [0, 7] + [0] * (size - 2)]:
                self.assertEqual(unpack(data), [-3])

    def test_6000_bytes_are_read(self):
        self.assertEqual(unpack([0] * 6000), [-20])
        self.assertEqual(unpack([255] * 6000), [-12])
        self.assertEqual(unpack([0, 7] + [0] * 5998), [-21])


class ByItself(unittest.TestCase):
    def test_parcels_faults_and_refusals(self):
        for code, numbers, data in PARCELS:
            same_again(self, unpack, data)
        for data, kind, place in PARCEL_FAULTS:
            same_again(self, unpack, data)
        same_again(self, unpack, [0] * 6001)


if __name__ == "__main__":
    unittest.main()
