"""Promises 2 to 7: status, bytes, record, balance, place, asof."""

import unittest

from helper import (
    BALANCE, FAR, PLACES, STATUS, USERS, after, ask_place, ask_record, asof, codes_of, cut, feed, feeds, journal, record,
    run, show,
)

TOLD = USERS + ["boss metal gold"] + PLACES + [
    "boss open pit 10 25", "hand move pit mill 5", "boss close", "hand ship mill buyer 2 3", "clerk back 14", "boss close",
]


class Status(unittest.TestCase):
    def test_new(self):
        self.assertEqual(run(STATUS), [[0, 0, 0, 0, 0, 1]])

    def test_pending(self):
        row = journal(TOLD) + codes_of("000003 ab")
        self.assertEqual(run(*feeds(row), STATUS)[-1], [0, len(row), 9, 0, 17, 3])

    def test_broken(self):
        row = journal(TOLD) + codes_of("000003abc")
        self.assertEqual(run(*feeds(row), STATUS)[-1], [0, len(row), 9, 1, 17, 3])


class Bytes(unittest.TestCase):
    ROW = [number % 10 + 48 for number in range(6)] + list(range(256)) * 8

    def test_ends(self):
        length = len(self.ROW)
        found = run(
            feed(self.ROW), show(0, 0), show(0, 1), show(0, 1000), show(5, 3), show(length - 1, 1000),
            show(length - 2, 2), show(length, 1000), show(length + 1, 1), show(6000, 1000), show(6000, 0),
        )
        self.assertEqual(found[1:], [
            [0], [0] + self.ROW[:1], [0] + self.ROW[:1000], [0] + self.ROW[5:8], [0] + self.ROW[-1:],
            [0] + self.ROW[-2:], [0], [0], [0], [0],
        ])

    def test_the_last_of_six_thousand(self):
        row = record([120] * 186) * 30
        self.assertEqual(run(*feeds(row), show(5999, 1000), show(6000, 1000))[2:], [[0, 10], [0]])

    def test_ranges(self):
        for call in (show(-1, 0), show(6001, 0), show(0, -1), show(0, 1001), show(-1, -1)):
            with self.subTest(call=call):
                self.assertEqual(run(feed("000"), call, show(0, 9)), [[0, 0, 0], [-1], [0, 48, 48, 48]])
        for far in FAR:
            self.assertEqual(run(show(far, 0), show(0, far)), [[-1], [-1]])

    def test_nothing_there(self):
        self.assertEqual(run(show(0, 1000)), [[0]])


class Records(unittest.TestCase):
    def test_each(self):
        ends = [len(journal(TOLD[:number])) for number in range(1, 18)]
        found = after(TOLD, *[ask_record(number) for number in (1, 12, 13, 14, 15, 16, 17)])
        self.assertEqual(found, [
            [0, 0, 1, 0, ends[0]],
            [0, 0, 1, 0, ends[11]],
            [0, 0, 1, 0, ends[12], 1, 3, 5, 12],
            [0, 0, 1, 0, ends[13]],
            [0, 0, 2, 0, ends[14], 3, 5, 2, 3],
            # Record 14 is a close: it moved nothing.
            [0, 11, 2, 0, ends[15]],
            [0, 0, 2, 0, ends[16]],
        ])

    def test_taken_back(self):
        told = TOLD + ["clerk back 15"]
        found = after(told, ask_record(15), ask_record(18))
        self.assertEqual([answer[:4] + answer[5:] for answer in found], [
            [0, 0, 2, 1, 3, 5, 2, 3], [0, 0, 3, 0, 5, 3, 2, 3],
        ])

    def test_a_wrong_sum_is_a_record(self):
        row = record("- user boss 3") + record("boss note", 1)
        self.assertEqual(run(feed(row), ask_record(2))[1], [0, 1, 1, 0, len(row)])

    def test_without_metals(self):
        told = USERS + PLACES + ["boss open pit 5", "hand move pit dump 4"]
        self.assertEqual(after(told, ask_record(12))[0][5:], [1, 4, 4])

    def test_none_such(self):
        self.assertEqual(run(ask_record(1)), [[-5]])
        self.assertEqual(after(TOLD, ask_record(18), ask_record(1000)), [[-5], [-5]])

    def test_pending_is_no_record(self):
        self.assertEqual(run(feed(record("x")[:-1]), ask_record(1), feed([10]), ask_record(1)), [
            [0, 0, 0], [-5], [0, 0, 1, 3], [0, 3, 1, 0, 15],
        ])

    def test_range(self):
        calls = [ask_record(number) for number in (0, -1, 1001) + FAR]
        self.assertEqual(run(*calls), [[-1]] * 5)
        self.assertEqual(after(TOLD, *calls), [[-1]] * 5)


class Balance(unittest.TestCase):
    def test_new(self):
        self.assertEqual(run(BALANCE), [[0, 0]])

    def test_rows(self):
        self.assertEqual(after(TOLD, BALANCE), [
            [0, 6, 1, 5, 13, 2, 0, 0, 3, 3, 9, 4, 0, 0, 5, 2, 3, 2, 0, 0],
        ])

    def test_without_metals(self):
        self.assertEqual(after(["- user boss 3", "boss place pit ground", "boss open pit 4"], BALANCE), [[0, 1, 1, 4]])


class PlaceCall(unittest.TestCase):
    def test_found(self):
        found = after(TOLD, ask_place("pit"), ask_place("mill"), ask_place("buyer"))
        self.assertEqual(found, [[0, 1, 1, 5, 13], [0, 3, 3, 3, 9], [0, 5, 5, 2, 3]])

    def test_none_such(self):
        rows = ["", "none", "pi", "pitt", "PIT", " pit", "pit ", "pit\n", "-", "boss", "gold", "?", "p\xff", "pit" * 1000]
        self.assertEqual(after(TOLD, *[ask_place(row) for row in rows]), [[-6]] * len(rows))
        self.assertEqual(run(ask_place("pit")), [[-6]])

    def test_names_at_their_longest(self):
        told = ["- user boss 3", "boss place abcdefgh pile"]
        self.assertEqual(after(told, ask_place("abcdefgh"), ask_place("abcdefghi")), [[0, 1, 2, 0], [-6]])

    def test_numbers_that_are_no_bytes(self):
        found = after(TOLD, *[ask_place([112, 105, number]) for number in (-1, 256, 116 + 256, 255, 0) + FAR])
        self.assertEqual(found, [[-1], [-1], [-1], [-6], [-6], [-1], [-1]])


class AsOf(unittest.TestCase):
    def test_nothing(self):
        self.assertEqual(run(asof(0)), [[0, 1, 0]])
        self.assertEqual(after(TOLD, asof(0)), [[0, 1, 0]])

    def test_within(self):
        self.assertEqual(after(TOLD, asof(5), asof(6), asof(12), asof(13), asof(14), asof(15)), [
            [0, 1, 0],
            [0, 1, 1, 1, 0, 0],
            [0, 1, 6, 1, 10, 25, 2, 0, 0, 3, 0, 0, 4, 0, 0, 5, 0, 0, 2, 0, 0],
            [0, 1, 6, 1, 5, 13, 2, 0, 0, 3, 5, 12, 4, 0, 0, 5, 0, 0, 2, 0, 0],
            [0, 2, 6, 1, 5, 13, 2, 0, 0, 3, 5, 12, 4, 0, 0, 5, 0, 0, 2, 0, 0],
            [0, 2, 6, 1, 5, 13, 2, 0, 0, 3, 3, 9, 4, 0, 0, 5, 2, 3, 2, 0, 0],
        ])

    def test_all(self):
        found = after(TOLD, asof(17), BALANCE)
        self.assertEqual(found[0], [0, 3] + found[1][1:])

    def test_each_is_what_was_there_then(self):
        calls = []
        for payload in TOLD:
            calls.extend([feed(record(payload)), BALANCE, STATUS])
        found = run(*calls)
        later = after(TOLD, *[asof(number) for number in range(1, 18)])
        for number in range(17):
            with self.subTest(number=number + 1):
                self.assertEqual(later[number], [0, found[3 * number + 2][5]] + found[3 * number + 1][1:])

    def test_changes_nothing(self):
        calls = [STATUS, BALANCE, ask_record(15), show(0, 1000)]
        found = after(TOLD, *calls, asof(3), *calls)
        self.assertEqual(found[:4], found[5:])

    def test_pending_and_broken_bytes_are_no_matter(self):
        for tail in ("0000", "x"):
            row = journal(TOLD) + codes_of(tail)
            found = run(*feeds(row), asof(17), asof(18), asof(0), STATUS)
            self.assertEqual(found[1:4], after(TOLD, asof(17), asof(18), asof(0)))
            self.assertEqual(found[4][2], len(tail))

    def test_behind_a_cut(self):
        half = len(journal(TOLD[:13]))
        self.assertEqual(after(TOLD, cut(half), asof(13), asof(14))[1:], after(TOLD[:13], asof(13)) + [[-5]])

    def test_refusals(self):
        calls = [asof(number) for number in (18, 1000, 1001, -1) + FAR]
        self.assertEqual(after(TOLD, *calls), [[-5], [-5], [-1], [-1], [-1], [-1]])
        self.assertEqual(run(asof(1)), [[-5]])


if __name__ == "__main__":
    unittest.main()
