"""Point 7: unfault."""

import unittest

from broken import CUT, FAULTS, LEFT, NO_FAULTS, PARCEL_FAULTS, TAG
from pieces import CODES, LISTS, PARCELS, TAILS, parcel, same_again, whole_numbers
from sevencodes.codes import fault, pack, unfault, unpack

EXAMPLES = [
    ([0, 7], [11, 1]),
    ([0, 0, 9], [10, 2]),
    ([1, 0], [1, 2]),
]


class Told(unittest.TestCase):
    def test_the_examples_of_the_document(self):
        for data, answer in EXAMPLES:
            self.assertEqual(unfault(data), answer)

    def test_kinds_and_places(self):
        for data, kind, place in PARCEL_FAULTS:
            with self.subTest(data=data):
                self.assertEqual(unfault(data), [kind, place])

    def test_what_stands_behind_a_fault_does_not_move_it(self):
        for data, kind, place in PARCEL_FAULTS:
            if kind not in (CUT, LEFT):
                for tail in TAILS:
                    with self.subTest(data=data, tail=tail):
                        self.assertEqual(unfault(data + tail), [kind, place])

    def test_all_kinds_are_there_behind_lengths_of_one_byte_and_of_two(self):
        for size in [1, 2]:
            kinds = {kind for data, kind, place in PARCEL_FAULTS if data and (data[0] >= 128) == (size == 2)}
            self.assertTrue(kinds >= {CUT, LEFT, TAG})
            inner = {kind for code, n, data, kind, place in FAULTS if (n >= 128) == (size == 2)}
            self.assertEqual(inner, set(range(1, 10)))

    def test_the_length_and_the_tag_stand_before_the_places_of_fault(self):
        for code, n, data, kind, place in FAULTS:
            front = 2 if n < 128 else 3
            self.assertEqual(fault(code, n, data), [kind, place])
            self.assertEqual(unfault(parcel(code, n, data)), [kind, place + front])

    def test_the_place_of_a_cut_is_the_end(self):
        for code in CODES:
            for numbers in LISTS:
                data = pack(code, numbers)[1:]
                for size in [k for k in range(len(data)) if k < 40 or k % 97 == 0 or k > len(data) - 12]:
                    self.assertEqual(unfault(data[:size]), [1, size], (code, numbers, size))

    def test_the_place_of_what_is_left_is_behind_the_parcel(self):
        for code in CODES:
            for numbers in LISTS:
                data = pack(code, numbers)[1:]
                for tail in TAILS[1:]:
                    self.assertEqual(unfault(data + tail), [10, len(data)])

    def test_names_of_the_arguments(self):
        self.assertEqual(unfault(data=[0, 7]), [11, 1])


class NoneThere(unittest.TestCase):
    def test_written_parcels_have_no_fault(self):
        for code, numbers, data in PARCELS:
            self.assertEqual(unfault(data), [0])

    def test_lists_of_0_and_1_and_500_numbers(self):
        for code in range(8):
            for numbers in LISTS:
                self.assertEqual(unfault(pack(code, numbers)[1:]), [0])
        for code in CODES:
            self.assertEqual(unfault([0, code]), [0])

    def test_what_stands_beside_a_fault(self):
        for code, n, data, numbers in NO_FAULTS:
            self.assertEqual(unfault(parcel(code, n, data)), [0])


class AsUnpack(unittest.TestCase):
    """Unfault tells of just what unpack refuses by a fault, and of nothing else."""

    def test_parcels_with_one_byte_changed(self):
        for code in CODES:
            for numbers in LISTS:
                data = pack(code, numbers)[1:]
                if len(data) <= 120:
                    for place in range(len(data)):
                        for change in [1, 2, 128, 255]:
                            changed = list(data)
                            changed[place] = (changed[place] + change) % 256
                            self.look(changed)

    def look(self, data):
        told = unfault(data)
        read = unpack(data)
        self.assertTrue(whole_numbers(told))
        if read[0] >= 0:
            self.assertEqual(told, [0], data)
        else:
            self.assertEqual([-10 - told[0]], read, data)
            self.assertEqual(len(told), 2)
            self.assertIn(told[0], range(1, 12))
            self.assertTrue(0 <= told[1] <= len(data))
            self.assertEqual(told[1] == len(data), told[0] == 1, data)


class Refused(unittest.TestCase):
    def test_more_than_6000_bytes(self):
        for size in [6001, 6002, 7000]:
            for data in [[0] * size, [255] * size, [0, 7] + [0] * (size - 2)]:
                self.assertEqual(unfault(data), [-3])

    def test_6000_bytes_are_read(self):
        self.assertEqual(unfault([0] * 6000), [10, 2])
        self.assertEqual(unfault([255] * 6000), [2, 0])


class ByItself(unittest.TestCase):
    def test_parcels_faults_and_refusals(self):
        for code, numbers, data in PARCELS:
            same_again(self, unfault, data)
        for data, kind, place in PARCEL_FAULTS:
            same_again(self, unfault, data)
        same_again(self, unfault, [0] * 6001)


if __name__ == "__main__":
    unittest.main()
