"""Promises 11 and 12: sum and write."""

import unittest

from helper import (
    ASK_USERS, FAR, STATUS, ask_record, ask_sum, ask_written, codes_of, feed, payload_sum, record, run, show,
)

NO_BYTES = (-1, 256, 1000) + FAR


class Sum(unittest.TestCase):
    def test_no_bytes(self):
        self.assertEqual(run(ask_sum([])), [[0, 0]])

    def test_one_byte(self):
        self.assertEqual(run(*[ask_sum([byte]) for byte in (0, 1, 97, 255)]), [[0, 0], [0, 1], [0, 97], [0, 255]])

    def test_each_times_its_place(self):
        self.assertEqual(run(ask_sum([1, 2, 3]), ask_sum([3, 2, 1]), ask_sum([0, 0, 5])), [[0, 14], [0, 10], [0, 15]])
        self.assertEqual(run(ask_sum("- user boss 3")), [[0, 45 + 64 + 351 + 460 + 505 + 684 + 224 + 784 + 999
                                                         + 1150 + 1265 + 384 + 663]])

    def test_past_the_modulus(self):
        # 255 times 1 + 2 + .. + 22 is 64515; 23 times 43 stays below the modulus, 23 times 44 doesn't.
        front = [255] * 22
        self.assertEqual(run(ask_sum(front)), [[0, 64515]])
        self.assertEqual(run(ask_sum(front + [43]), ask_sum(front + [44])), [[0, 65504], [0, 6]])
        # 200 times 71 and 201 times 255 are 65455: the first byte brings it just below, to and above the modulus.
        behind = [0] * 198 + [71, 255]
        self.assertEqual(run(*[ask_sum([first] + behind) for first in (65, 66, 67)]), [[0, 65520], [0, 0], [0, 1]])

    def test_three_thousand_bytes(self):
        self.assertEqual(run(ask_sum([255] * 3000)), [[0, 255 * 3000 * 3001 // 2 % 65521]])
        row = [number * 7 % 256 for number in range(3000)]
        self.assertEqual(run(ask_sum(row)), [[0, payload_sum(row)]])

    def test_numbers_that_are_no_bytes(self):
        for number in NO_BYTES:
            for row in ([number], [number, 1, 2], [1, number, 2], [1, 2, number], [0] * 2999 + [number]):
                self.assertEqual(run(ask_sum(row)), [[-1]], number)

    def test_is_told_of_any_bytes_and_changes_nothing(self):
        self.assertEqual(run(ask_sum("000001 x"), STATUS), [[0, payload_sum(codes_of("000001 x"))], [0, 0, 0, 0, 0, 1]])

    def test_on_a_broken_journal(self):
        self.assertEqual(run(feed("x"), ask_sum([7])), [[0, 1, 0], [0, 7]])


class Written(unittest.TestCase):
    def test_one_byte(self):
        self.assertEqual(run(ask_written("x")), [[0] + codes_of("000001 x#00120\n")])
        self.assertEqual(run(ask_written([0])), [[0] + codes_of("000001 \x00#00000\n")])
        self.assertEqual(run(ask_written([255])), [[0] + codes_of("000001 \xff#00255\n")])

    def test_a_payload(self):
        self.assertEqual(run(ask_written("- user boss 3")), [[0] + codes_of("000013 - user boss 3#07578\n")])

    def test_lengths(self):
        for length in (1, 9, 10, 99, 100, 199, 200):
            row = [number * 11 % 256 for number in range(length)]
            self.assertEqual(run(ask_written(row)), [[0] + record(row)], length)

    def test_two_hundred_bytes(self):
        # 255 times 1 + 2 + .. + 200 goes past the modulus: 5125500 less 78 times 65521 is 14862.
        self.assertEqual(run(ask_written([255] * 200)), [
            [0] + codes_of("000200 ") + [255] * 200 + codes_of("#14862\n"),
        ])

    def test_too_few_and_too_many(self):
        rows = [[], [120] * 201, [120] * 1000, [120] * 3000]
        self.assertEqual(run(*[ask_written(row) for row in rows]), [[-1]] * 4)

    def test_numbers_that_are_no_bytes(self):
        for number in NO_BYTES:
            for row in ([number], [number, 1, 2], [1, number, 2], [1, 2, number], [0] * 199 + [number], [number] * 201):
                self.assertEqual(run(ask_written(row)), [[-1]], number)

    def test_fed_it_is_a_whole_record(self):
        payloads = ["- user boss 3", "boss note", "boss user clerk 2", "x", [255] * 200, [10] * 30, "# #\n000001 x"]
        found = run(*[ask_written(payload) for payload in payloads])
        fed = run(*[feed(answer[1:]) for answer in found], ASK_USERS)
        self.assertEqual(fed[:-1], [[0, 0, 1, code] for code in (0, 0, 0, 3, 3, 3, 3)])
        self.assertEqual(fed[-1][1], 2)

    def test_a_record_with_every_byte(self):
        for byte in range(256):
            written = run(ask_written([byte]))[0][1:]
            self.assertEqual(len(written), 15, byte)
            # Blanks alone are no words; all else is no user.
            self.assertEqual(run(feed(written)), [[0, 0, 1, 2 if byte == 32 else 3]], byte)

    def test_is_not_fed_by_itself(self):
        found = run(ask_written("- user boss 3"), STATUS, show(0, 1000), ask_record(1))
        self.assertEqual(found[1:], [[0, 0, 0, 0, 0, 1], [0], [-5]])

    def test_on_a_broken_journal(self):
        self.assertEqual(run(feed("x"), ask_written("x"))[1], [0] + codes_of("000001 x#00120\n"))


if __name__ == "__main__":
    unittest.main()
