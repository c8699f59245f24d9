"""The interface: how calls and answers stand in one list."""

import time
import unittest

from helper import (
    ASK_STANDING, ASK_USERS, BALANCE, CHECK, PLACES, STATUS, USERS, ask_month, ask_place, ask_record, ask_royalty,
    ask_sum, ask_trail, ask_written, asof, cut, feed, feeds, journal, record, run, show,
)

from tonnebook.desk import answers

TOLD = USERS + ["boss metal gold"] + PLACES + [
    "boss open pit 10 25", "hand move pit mill 5", "hand ship mill buyer 2 3", "boss scale 0 1000", "boss close",
]
# Each kind of call once, none of them refused behind TOLD.
EACH = [
    feed([48]), cut(30), STATUS, show(0, 1000), ask_record(1), BALANCE, ask_place("pit"), asof(1), ask_month(1),
    ask_royalty(1), ASK_USERS, ask_sum([1, 2]), ask_written([120]), ASK_STANDING, ask_trail("pit"), CHECK,
]


class Answers(unittest.TestCase):
    def test_one_list_with_counts(self):
        calls = [2, 0, 2, 48, 48, 3, 0, 1000, 1, 1, 1, 9, 4, 1, 5, 6, 1, 97, 7, 0, 6, 0, 0, 0, 0, 1, 256, 2]
        self.assertEqual(answers(calls), [
            6, 0, 0, 0, 0, 0, 1,
            3, 0, 0, 0,
            3, 0, 48, 48,
            3, 0, 0, 0,
            1, -4,
            1, -5,
            2, 0, 0,
            1, -6,
            3, 0, 1, 0,
            1, -6,
            3, 0, 0, 0,
            1, -1,
            6, 0, 1, 1, 0, 0, 1,
        ])

    def test_all_sixteen_in_one_list(self):
        row = record("- user bo 3")
        calls = [0, len(row)] + row + [
            0, 1, 256, 1, 26, 1, 9999, 2, 3, 0, 3, 3, 0, 1001, 4, 1, 4, 2, 5, 6, 2, 98, 111, 6, 1, 256, 7, 1, 7, 2,
            8, 1, 8, 2, 8, 0, 9, 1, 9, 2, 9, 0, 10, 11, 2, 1, 2, 11, 1, -1, 12, 1, 120, 12, 0, 13,
            14, 2, 98, 111, 14, 1, 256, 15, 1, 25, 10, 15,
        ]
        self.assertEqual(len(row), 25)
        self.assertEqual(answers(calls), [
            4, 0, 0, 1, 0,
            1, -1,
            1, -4,
            1, -1,
            6, 0, 25, 0, 0, 1, 1,
            4, 0, 48, 48, 48,
            1, -1,
            5, 0, 0, 1, 0, 25,
            1, -5,
            2, 0, 0,
            1, -6,
            1, -1,
            3, 0, 1, 0,
            1, -5,
            6, 0, 0, 0, 0, 0, 0,
            1, -7,
            1, -1,
            3, 0, 0, 0,
            1, -7,
            1, -1,
            6, 0, 1, 3, 2, 98, 111,
            2, 0, 5,
            1, -1,
            16, 0, 48, 48, 48, 48, 48, 49, 32, 120, 35, 48, 48, 49, 50, 48, 10,
            1, -1,
            1, 0,
            1, -6,
            1, -1,
            2, 0, 1,
            3, 0, 1, 0,
            6, 0, 1, 3, 2, 98, 111,
            2, 0, 1,
        ])

    def test_each_with_its_count(self):
        row = journal(TOLD)
        for call in EACH:
            told = answers(feed(row) + call + STATUS)
            begin = 1 + told[0]
            with self.subTest(call=call[0]):
                self.assertEqual(told[begin + 1], 0)
                # The status behind it stands just where the count says.
                status = told[begin + 1 + told[begin]:]
                self.assertEqual(status[:2], [6, 0])
                self.assertEqual(len(status), 7)

    def test_one_call(self):
        self.assertEqual(answers([2]), [6, 0, 0, 0, 0, 0, 1])

    def test_two_hundred_calls(self):
        self.assertEqual(answers([5] * 200), [2, 0, 0] * 200)

    def test_two_hundred_calls_of_all_kinds(self):
        free = [call for call in EACH if call[0] not in (0, 1, 7, 15)]
        few = [CHECK, asof(5), cut(len(journal(TOLD)))] * 10
        wanted = [run(feed(journal(TOLD)), call)[1] for call in free]
        found = run(feed(journal(TOLD)), *free * 14, *few, STATUS)
        self.assertEqual(len(found), 200)
        self.assertEqual(found[1:169], wanted * 14)
        self.assertEqual(found[169:199], [[0, 1], [0, 1, 0], [0, 16, 0]] * 10)

    def test_what_is_handed_in_stays_the_same(self):
        calls = feed(journal(TOLD)) + [number for call in EACH for number in call] + feed([-1]) + ask_written([])
        before = list(calls)
        first = answers(calls)
        self.assertEqual(calls, before)
        self.assertEqual(answers(calls), first)
        self.assertEqual(calls, before)

    def test_what_is_answered_is_a_list_of_its_own(self):
        calls = feed([48]) + show(0, 1)
        first = answers(calls)
        first.clear()
        self.assertEqual(answers(calls), [3, 0, 0, 0, 2, 0, 48])

    def test_nothing_is_kept(self):
        answers(feed(journal(TOLD)) + feed("x"))
        found = run(
            STATUS, BALANCE, ask_record(1), ask_place("pit"), show(0, 1000), asof(0), ask_month(1), ask_month(2),
            ask_royalty(1), ASK_USERS, ASK_STANDING, ask_trail("pit"), CHECK,
        )
        self.assertEqual(found, [
            [0, 0, 0, 0, 0, 1], [0, 0], [-5], [-6], [0], [0, 1, 0], [0] * 6, [-7], [0, 0, 0], [0, 0], [0], [-6], [0, 1],
        ])

    def test_whole_numbers_alone(self):
        told = answers(feed(journal(TOLD)) + [number for call in EACH[1:] + EACH[:1] for number in call] + feed("x"))
        self.assertEqual({type(number) for number in told}, {int})
        self.assertIs(type(told), list)

    def test_refusals_change_nothing(self):
        row = journal(TOLD)
        refused = [feed([300]), cut(-1), cut(5000), show(-1, 0), ask_record(0), ask_record(99), ask_place("none"),
                   ask_place([-1]), asof(-1), asof(99), ask_month(0), ask_month(3), ask_royalty(1001), ask_royalty(3),
                   ask_sum([256]), ask_written([]), ask_written([-1]), ask_trail("none"), ask_trail([256])]
        shown = EACH[2:]
        found = run(feed(row), *refused, *shown)
        self.assertEqual(found[1:20], [
            [-1], [-1], [-4], [-1], [-1], [-5], [-6], [-1], [-1], [-5], [-1], [-7], [-1], [-7], [-1], [-1], [-1], [-6],
            [-1],
        ])
        self.assertEqual(found[20:], run(feed(row), *shown)[1:])

    def test_what_only_asks_changes_nothing(self):
        shown = EACH[2:]
        found = run(feed(journal(TOLD)), *shown, *shown)
        self.assertEqual(found[1:15], found[15:])


class Speed(unittest.TestCase):
    def quickly(self, *calls):
        begun = time.process_time()
        found = run(*calls)
        self.assertLess(time.process_time() - begun, 5)
        return found

    def test_thirty_over_the_longest_journal(self):
        moves = journal(TOLD)
        moves += record("hand move pit mill 1") * ((6000 - len(moves)) // 34)
        for row in (record("x") * 400, moves):
            records = run(*feeds(row), STATUS)[-1][4]
            for call, wanted in ((cut(len(row)), [0, records, 0]), (asof(records), None), (CHECK, [0, 1])):
                with self.subTest(call=call, records=records):
                    found = self.quickly(*feeds(row), *[call] * 30)
                    self.assertEqual(found[2:], [wanted or found[2]] * 30)
                    self.assertEqual(found[2][0], 0)

    def test_two_hundred_over_the_longest_journal(self):
        moves = journal(TOLD)
        moves += record("hand move pit mill 1") * ((6000 - len(moves)) // 34)
        for call in (ask_month(1), ask_royalty(1), ASK_STANDING, ask_trail("mill"), BALANCE, ask_record(100)):
            with self.subTest(call=call):
                found = self.quickly(*feeds(moves), *[call] * 198)
                self.assertEqual(found[2:], [found[2]] * 198)
                self.assertEqual(found[2][0], 0)


if __name__ == "__main__":
    unittest.main()
