"""The interface: how calls and answers stand in one list."""

import unittest

from helper import BALANCE, PLACES, STATUS, USERS, ask_place, ask_record, asof, cut, feed, journal, run, show

from tonnebook.desk import answers


class Answers(unittest.TestCase):
    def test_one_list_with_counts(self):
        calls = [2, 0, 2, 48, 48, 3, 0, 1000, 1, 1, 1, 9, 4, 1, 5, 6, 1, 97, 7, 0, 6, 0, 0, 0, 0, 1, 256, 2]
        self.assertEqual(answers(calls), [
            6, 0, 0, 0, 0, 0, 1,
            3, 0, 0, 0,
            3, 0, 48, 48,
            3, 0, 0, 0,
            1, -4,
            1, -5,
            2, 0, 0,
            1, -6,
            3, 0, 1, 0,
            1, -6,
            3, 0, 0, 0,
            1, -1,
            6, 0, 1, 1, 0, 0, 1,
        ])

    def test_one_call(self):
        self.assertEqual(answers([2]), [6, 0, 0, 0, 0, 0, 1])

    def test_two_hundred_calls(self):
        self.assertEqual(answers([5] * 200), [2, 0, 0] * 200)

    def test_what_is_handed_in_stays_the_same(self):
        row = journal(USERS + PLACES)
        calls = feed(row) + STATUS + show(0, 1000) + BALANCE + ask_place("pit") + cut(30) + asof(1) + feed([48]) + [4, 1]
        before = list(calls)
        first = answers(calls)
        self.assertEqual(calls, before)
        self.assertEqual(answers(calls), first)

    def test_what_is_answered_is_a_list_of_its_own(self):
        calls = feed([48]) + show(0, 1)
        first = answers(calls)
        first.clear()
        self.assertEqual(answers(calls), [3, 0, 0, 0, 2, 0, 48])

    def test_nothing_is_kept(self):
        answers(feed(journal(USERS + PLACES)) + feed("x"))
        self.assertEqual(run(STATUS, BALANCE, ask_record(1), ask_place("pit"), show(0, 1000), asof(0)), [
            [0, 0, 0, 0, 0, 1], [0, 0], [-5], [-6], [0], [0, 1, 0],
        ])

    def test_whole_numbers_alone(self):
        row = journal(USERS + PLACES)
        told = answers(feed(row) + feed("x") + STATUS + BALANCE + cut(3) + ask_record(1) + asof(0))
        self.assertEqual({type(number) for number in told}, {int})
        self.assertIs(type(told), list)

    def test_refusals_change_nothing(self):
        row = journal(USERS + PLACES)
        refused = [feed([300]), cut(-1), cut(5000), show(-1, 0), ask_record(0), ask_record(99), ask_place("none"),
                   ask_place([-1]), asof(-1), asof(99)]
        found = run(feed(row), *refused, STATUS, BALANCE, show(0, 1000))
        self.assertEqual([answer for answer in found[1:11]], [
            [-1], [-1], [-4], [-1], [-1], [-5], [-6], [-1], [-1], [-5],
        ])
        self.assertEqual(found[11:], run(feed(row), STATUS, BALANCE, show(0, 1000))[1:])


if __name__ == "__main__":
    unittest.main()
