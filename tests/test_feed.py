"""Promise 0: how bytes become records."""

import unittest

from helper import STATUS, USERS, codes, codes_of, cut, feed, feeds, journal, payload_sum, record, run, show

BOSS = "- user boss 3"
# 13 bytes of payload, so 27 of record.
BOSS_LENGTH = 27


class WholeRecords(unittest.TestCase):
    def test_written_out(self):
        # 000001 blank A # 00065 line feed: no word of it is a user's name.
        row = [48, 48, 48, 48, 48, 49, 32, 65, 35, 48, 48, 48, 54, 53, 10]
        self.assertEqual(run(feed(row), STATUS), [[0, 0, 1, 3], [0, 15, 0, 0, 1, 1]])

    def test_in_one_piece(self):
        self.assertEqual(run(feed(record(BOSS)), STATUS), [[0, 0, 1, 0], [0, BOSS_LENGTH, 0, 0, 1, 1]])

    def test_byte_by_byte(self):
        row = record(BOSS)
        found = run(*[feed([byte]) for byte in row])
        self.assertEqual(found, [[0, 0, 0]] * (BOSS_LENGTH - 1) + [[0, 0, 1, 0]])

    def test_each_piece_ending(self):
        row = record(BOSS)
        for at in range(1, BOSS_LENGTH):
            with self.subTest(at=at):
                found = run(feed(row[:at]), STATUS, feed(row[at:]), STATUS)
                self.assertEqual(found, [
                    [0, 0, 0], [0, at, at, 0, 0, 1],
                    [0, 0, 1, 0], [0, BOSS_LENGTH, 0, 0, 1, 1],
                ])

    def test_several_records_in_one_row(self):
        row = journal([BOSS, "boss note", "who note", "boss leap"]) + codes_of("0000")
        self.assertEqual(run(feed(row), STATUS), [[0, 0, 4, 0, 0, 3, 2], [0, len(row), 4, 0, 4, 1]])

    def test_piece_over_the_end_of_a_record(self):
        row = journal([BOSS, "boss note"])
        found = run(feed(row[:BOSS_LENGTH + 3]), feed(row[BOSS_LENGTH + 3:]))
        self.assertEqual(found, [[0, 0, 1, 0], [0, 0, 1, 0]])

    def test_empty_row(self):
        self.assertEqual(run(feed([]), STATUS), [[0, 0, 0], [0, 0, 0, 0, 0, 1]])


class Payloads(unittest.TestCase):
    def test_one_byte(self):
        self.assertEqual(codes(["-"]), [3])

    def test_two_hundred_bytes(self):
        payload = "boss note " + "x" * 190
        self.assertEqual(codes([BOSS, payload]), [0, 0])
        self.assertEqual(run(feed(record(payload)), STATUS)[1], [0, 214, 0, 0, 1, 1])

    def test_sum_beyond_the_modulus(self):
        payload = [255] * 200
        self.assertEqual(payload_sum(payload), 5125500 % 65521)
        self.assertEqual(run(feed(record(payload)), feed(record(payload, 5125500 % 65521 + 1))), [
            [0, 0, 1, 3], [0, 0, 1, 1],
        ])

    def test_blanks_alone(self):
        self.assertEqual(codes([" ", " " * 200]), [2, 2])

    def test_blanks_around_and_between_words(self):
        self.assertEqual(codes(["  -   user  boss 3 ", "boss    note"]), [0, 0])

    def test_bytes_of_every_sort(self):
        payload = codes_of("boss note ") + [0, 10, 35, 255]
        self.assertEqual(codes([BOSS, payload]), [0, 0])
        self.assertEqual(codes([BOSS, [0], [10], [35], [255]]), [0, 3, 3, 3, 3])

    def test_only_the_blank_parts_words(self):
        for byte in (0, 9, 10, 13, 160):
            with self.subTest(byte=byte):
                self.assertEqual(codes([BOSS, codes_of("boss") + [byte] + codes_of("note")]), [0, 3])


class Sums(unittest.TestCase):
    def test_wrong_sum_does_nothing(self):
        right = payload_sum(codes_of(BOSS))
        row = record(BOSS, right + 1) + record("boss note") + record(BOSS)
        self.assertEqual(run(feed(row), STATUS), [[0, 0, 3, 1, 3, 0], [0, len(row), 0, 0, 3, 1]])

    def test_sum_off_by_the_modulus(self):
        right = payload_sum(codes_of("-"))
        self.assertEqual(run(feed(record("-", right + 65521)))[0], [0, 0, 1, 1])

    def test_greatest_sum(self):
        self.assertEqual(run(feed(record("-", 99999)))[0], [0, 0, 1, 1])

    def test_places_count(self):
        swapped = record("ab")
        swapped[7], swapped[8] = swapped[8], swapped[7]
        self.assertEqual(run(feed(swapped))[0], [0, 0, 1, 1])


class Breaks(unittest.TestCase):
    def check_break(self, row, at):
        """Row breaks just at its byte at, behind one whole record, however it comes."""
        head = record(BOSS)
        found = run(feed(head), feed(row[:at]), feed([row[at]]), STATUS, feed([]), feed([48]))
        self.assertEqual(found[1:], [
            [0, 0, 0], [0, 1, 0], [0, BOSS_LENGTH + at + 1, at + 1, 1, 1, 1], [-2], [-2],
        ])
        whole = head + row[:at + 1] + record("boss note")
        pending = len(whole) - BOSS_LENGTH
        self.assertEqual(run(feed(whole), STATUS, show(BOSS_LENGTH, 1000)), [
            [0, 1, 1, 0], [0, len(whole), pending, 1, 1, 1], [0] + whole[BOSS_LENGTH:],
        ])

    def test_a_byte_that_is_no_digit_in_the_length(self):
        for at in range(6):
            for byte in (0, 10, 32, 47, 58, 255):
                with self.subTest(at=at, byte=byte):
                    row = codes_of("000001 x#00120\n")
                    row[at] = byte
                    self.check_break(row, at)

    def test_length_out_of_range_at_its_sixth_digit(self):
        for length in ("000000", "000201", "000210", "001000", "100001", "999999"):
            with self.subTest(length=length):
                self.check_break(codes_of(length), 5)

    def test_lengths_at_their_ends(self):
        for length in ("000001", "000200"):
            with self.subTest(length=length):
                self.assertEqual(run(feed(length), STATUS), [[0, 0, 0], [0, 6, 6, 0, 0, 1]])

    def test_no_blank(self):
        for byte in (0, 31, 33, 48):
            with self.subTest(byte=byte):
                self.check_break(codes_of("000001") + [byte], 6)

    def test_no_sharp(self):
        for byte in (34, 36, 48, 10):
            with self.subTest(byte=byte):
                self.check_break(codes_of("000001 x") + [byte], 8)

    def test_a_byte_that_is_no_digit_in_the_sum(self):
        for at in range(9, 14):
            for byte in (10, 32, 47, 58, 35):
                with self.subTest(at=at, byte=byte):
                    row = codes_of("000001 x#00120\n")
                    row[at] = byte
                    self.check_break(row, at)

    def test_no_line_feed(self):
        for byte in (0, 9, 11, 13, 48):
            with self.subTest(byte=byte):
                self.check_break(codes_of("000001 x#00120") + [byte], 14)

    def test_break_at_the_first_byte(self):
        self.assertEqual(run(feed("x"), STATUS), [[0, 1, 0], [0, 1, 1, 1, 0, 1]])

    def test_a_break_later_in_a_long_row(self):
        row = journal(USERS) + codes_of("000004 note!")
        self.assertEqual(run(feed(row), STATUS), [[0, 1, 4, 0, 0, 0, 0], [0, len(row), 12, 1, 4, 1]])


class Refusals(unittest.TestCase):
    def test_numbers_that_are_no_bytes(self):
        for number in (-1, 256, 10 ** 18, -10 ** 18):
            with self.subTest(number=number):
                found = run(feed([48, number]), STATUS, feed([0, 255]))
                self.assertEqual(found, [[-1], [0, 0, 0, 0, 0, 1], [0, 1, 0]])

    def test_bytes_at_their_ends(self):
        row = record([0, 255])
        self.assertEqual(run(feed(row))[0], [0, 0, 1, 3])

    def test_just_six_thousand(self):
        row = record([120] * 186) * 30
        self.assertEqual(len(row), 6000)
        found = run(*feeds(row), feed([]), feed([48]), STATUS)
        self.assertEqual(found[2:], [[0, 0, 0], [-3], [0, 6000, 0, 0, 30, 1]])

    def test_one_byte_too_many_changes_nothing(self):
        row = record([120] * 186) * 30
        found = run(feed(row[:3000]), feed(row[3000:5999]), feed([10, 48]), STATUS, feed([10]))
        self.assertEqual(found[2:], [[-3], [0, 5999, 199, 0, 29, 1], [0, 0, 1, 3]])

    def test_order(self):
        broken = [120] * 3000
        found = run(feed(broken), feed([256] * 3000), feed([48] * 3000), feed([48] * 2999 + [-1]))
        self.assertEqual(found, [[0, 1, 0], [-1], [-2], [-1]])
        # Broken and too long: -2 comes first; too long and no byte: -1 does.
        long = record([120] * 186) * 14
        found = run(feed(long), feed(long), feed([48] * 401), feed([48] * 400 + [256]), feed([120]), feed([48] * 401))
        self.assertEqual(found[2:], [[-3], [-1], [0, 1, 0], [-2]])

    def test_a_row_that_breaks_beyond_the_end_is_too_long(self):
        row = record([120] * 186) * 30
        found = run(*feeds(row), feed("x"), cut(5999), feed("x"), STATUS)
        self.assertEqual(found[2:], [[-3], [0, 29, 0], [0, 1, 0], [0, 6000, 200, 1, 29, 1]])


if __name__ == "__main__":
    unittest.main()
