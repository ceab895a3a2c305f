"""The whole document, over all eleven calls."""

import ast
import contextlib
import inspect
import io
import pathlib
import sys
import unittest

from broken import FAULTS, PARCEL_FAULTS
from pieces import CODES, GREATEST, LEAST, LISTS, PARCELS, VECTORS, same_again, scattered, whole_numbers
from sevencodes import codes

ARGUMENTS = {
    "encode": ["code", "numbers"],
    "decode": ["code", "n", "data"],
    "fault": ["code", "n", "data"],
    "sizes": ["numbers"],
    "pack": ["code", "numbers"],
    "unpack": ["data"],
    "unfault": ["data"],
    "recode": ["code", "data"],
    "join": ["code", "first", "second"],
    "part": ["code", "start", "count", "data"],
    "at": ["k", "data"],
}

SCATTERED = [scattered(count, spread, count + spread) for count in [2, 9, 33, 128, 500] for spread in [1, 60, 2 ** 62]]
ROWS = LISTS + SCATTERED

PACKAGE = pathlib.Path(codes.__file__).parent


def changed_a_little(data):
    """The bytes with one byte or another changed, dropped or put in."""
    for place in range(0, len(data), max(1, len(data) // 6)):
        for change in [1, 128, 255]:
            yield data[:place] + [(data[place] + change) % 256] + data[place + 1:]
        yield data[:place] + data[place + 1:]
        yield data[:place] + [0] + data[place:]


def every_call(code, numbers, data):
    """Rows (call, arguments), each call with the same code, numbers and parcel."""
    n = len(numbers)
    listed = codes.encode(code, numbers)[1:] if code in CODES and n <= 500 else data
    return [
        (codes.encode, (code, numbers)), (codes.decode, (code, n, listed)), (codes.fault, (code, n, listed)),
        (codes.sizes, (numbers,)), (codes.pack, (code, numbers)), (codes.unpack, (data,)), (codes.unfault, (data,)),
        (codes.recode, (code, data)), (codes.join, (code, data, data)), (codes.join, (code, data, list(data))),
        (codes.part, (code, 0, n, data)), (codes.part, (code, n // 2, 1, data)), (codes.at, (n // 2, data)),
        (codes.at, (n, data)),
    ]


class Interface(unittest.TestCase):
    def test_names_and_arguments(self):
        for name, arguments in ARGUMENTS.items():
            found = inspect.signature(getattr(codes, name)).parameters.values()
            self.assertEqual([argument.name for argument in found], arguments)
            self.assertTrue(all(argument.default is inspect.Parameter.empty for argument in found))


class Agreeing(unittest.TestCase):
    def test_what_encode_wrote_decode_reads(self):
        for numbers in ROWS:
            for code in CODES:
                written = codes.encode(code, numbers)
                self.assertEqual(codes.decode(code, len(numbers), written[1:]), written[:1] + numbers)
                self.assertEqual(codes.fault(code, len(numbers), written[1:]), [0])

    def test_what_pack_wrote_unpack_reads(self):
        for numbers in ROWS:
            for code in range(8):
                data = codes.pack(code, numbers)[1:]
                self.assertEqual(codes.unpack(data), [len(numbers)] + numbers)
                self.assertEqual(codes.unfault(data), [0])

    def test_fault_and_decode_agree(self):
        for numbers in ROWS:
            for code in CODES:
                for data in changed_a_little(codes.encode(code, numbers)[1:]):
                    self.agree(codes.fault(code, len(numbers), data), codes.decode(code, len(numbers), data))

    def test_unfault_and_unpack_agree(self):
        for numbers in ROWS:
            for code in CODES:
                for data in changed_a_little(codes.pack(code, numbers)[1:]):
                    self.agree(codes.unfault(data), codes.unpack(data))

    def agree(self, told, read):
        if read[0] >= 0:
            self.assertEqual(told, [0])
        else:
            self.assertEqual(len(told), 2)
            self.assertEqual(read, [-10 - told[0]])

    def test_all_that_read_a_parcel_refuse_alike(self):
        for data in [row[0] for row in PARCEL_FAULTS] + [[0] * 6001]:
            refusal = codes.unpack(data)
            self.assertEqual(codes.recode(7, data), refusal)
            self.assertEqual(codes.join(7, data, [0, 0]), refusal)
            self.assertEqual(codes.join(7, [0, 0], data), refusal)
            self.assertEqual(codes.part(7, 0, 0, data), refusal)
            self.assertEqual(codes.at(0, data), refusal)

    def test_recode_join_part_and_at_agree_with_unpack_and_pack(self):
        for k, numbers in enumerate(ROWS):
            n = len(numbers)
            for source in CODES:
                data = codes.pack(source, numbers)[1:]
                code = (source + k) % 8
                self.assertEqual(codes.recode(code, data), codes.pack(code, codes.unpack(data)[1:]))
                self.assertEqual(codes.part(code, 0, n, data), codes.recode(code, data))
                self.assertEqual(codes.join(code, data, [0, source]), codes.recode(code, data))
                front = codes.part(7, 0, n // 3, data)[1:]
                back = codes.part(source, n // 3, n - n // 3, data)[1:]
                self.assertEqual(codes.join(code, front, back), codes.recode(code, data))
                for place in range(0, n, max(1, n // 5)):
                    alone = codes.part(code, place, 1, data)[1:]
                    self.assertEqual(codes.at(place, data), [0] + codes.unpack(alone)[1:])
                    self.assertEqual(codes.at(place, data), [0, numbers[place]])

    def test_the_best_code_is_the_same_in_all_of_them(self):
        for numbers in ROWS:
            best = codes.sizes(numbers)[0]
            answer = codes.pack(best, numbers)
            data = codes.pack(6 - best, numbers)[1:]
            self.assertEqual(codes.pack(7, numbers), answer)
            self.assertEqual(codes.recode(7, data), answer)
            self.assertEqual(codes.join(7, data, [0, 6]), answer)
            self.assertEqual(codes.part(7, 0, len(numbers), data), answer)

    def test_no_answer_is_longer_than_the_document_says(self):
        numbers = [GREATEST - k * (2 ** 64 // 500) for k in range(500)]
        for row in [numbers, numbers[::-1], [LEAST, GREATEST] * 250, scattered(500, GREATEST, 9)]:
            for code in CODES:
                self.assertLessEqual(len(codes.encode(code, row)), 5600)
                self.assertLessEqual(len(codes.pack(code, row)), 5600)


class ByItself(unittest.TestCase):
    def test_nothing_is_changed_and_the_same_is_answered(self):
        for numbers in SCATTERED + [[], [7, 7, 7], [3] * 501, [0, GREATEST + 1]]:
            for code in [-1, 0, 1, 2, 3, 4, 5, 6, 7, 8]:
                data = codes.pack(code % 7, numbers)[1:]
                for call, handed in every_call(code, numbers, data):
                    same_again(self, call, *handed)

    def test_one_call_leaves_nothing_behind_for_another(self):
        rows = [row for numbers in LISTS[:12] for code in [0, 3, 5, 6, 7, 9]
                for row in every_call(code, numbers, codes.pack(code % 7, numbers)[1:])]
        forwards = [call(*handed) for call, handed in rows]
        backwards = [call(*handed) for call, handed in rows[::-1]]
        self.assertEqual(forwards, backwards[::-1])

    def test_every_answer_is_a_list_of_whole_numbers(self):
        for code, n, data, kind, place in FAULTS:
            self.assertTrue(whole_numbers(codes.fault(code, n, data)))
            self.assertTrue(whole_numbers(codes.decode(code, n, data)))
        for code, numbers, data in VECTORS:
            for call, handed in every_call(code, numbers, data):
                self.assertTrue(whole_numbers(call(*handed)))

    def test_nothing_is_printed_or_read(self):
        shown = io.StringIO()
        held = sys.stdin
        sys.stdin = None
        try:
            with contextlib.redirect_stdout(shown), contextlib.redirect_stderr(shown):
                for code, numbers, data in PARCELS:
                    for call, handed in every_call(code, numbers, data):
                        call(*handed)
        finally:
            sys.stdin = held
        self.assertEqual(shown.getvalue(), "")

    def test_few_calls_within_one_another(self):
        limit = sys.getrecursionlimit()
        sys.setrecursionlimit(len(inspect.stack()) + 60)
        try:
            for numbers in [[GREATEST] * 500, list(range(500)), [LEAST, GREATEST] * 250]:
                for code in range(8):
                    data = codes.pack(code, numbers)[1:]
                    for call, handed in every_call(code, numbers, data):
                        call(*handed)
        finally:
            sys.setrecursionlimit(limit)

    def test_only_the_package_itself_is_imported(self):
        for file in sorted(PACKAGE.glob("*.py")):
            for node in ast.walk(ast.parse(file.read_text())):
                self.assertNotIsInstance(node, ast.Import)
                if isinstance(node, ast.ImportFrom):
                    self.assertEqual(node.level, 0)
                    self.assertTrue(node.module.startswith("sevencodes."))


if __name__ == "__main__":
    unittest.main()
