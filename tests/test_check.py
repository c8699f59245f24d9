"""Promise 15: check."""

import unittest

from helper import (
    BALANCE, CHECK, PLACES, USERS, ask_month, ask_place, ask_record, ask_royalty, ask_sum, ask_trail, ask_written, asof,
    codes_of, cut, feed, feeds, journal, record, run, show,
)

from tonnebook.books import Move
from tonnebook.desk import Desk, answer_check, answer_feed

TOLD = USERS + ["boss metal gold"] + PLACES + [
    "boss open pit 10 25", "hand move pit mill 5", "boss close", "hand ship mill buyer 2 3", "clerk back 15",
    "second back 16", "boss scale 0 5 10 6", "hand leap",
]
ROW = journal(TOLD)


class Check(unittest.TestCase):
    def test_at_the_beginning(self):
        self.assertEqual(run(CHECK), [[0, 1]])

    def test_behind_one_feed(self):
        self.assertEqual(run(feed(ROW), CHECK)[1], [0, 1])

    def test_in_pieces(self):
        step = len(ROW) // 29 + 1
        calls = []
        for piece in feeds(ROW, step):
            calls.extend([piece, CHECK])
        self.assertEqual(run(*calls)[1::2], [[0, 1]] * (len(calls) // 2))

    def test_byte_by_byte(self):
        row = journal(TOLD[:4])
        self.assertEqual(run(*feeds(row, 1), CHECK)[-1], [0, 1])

    def test_behind_a_cut(self):
        for at in range(0, len(ROW) + 1, 11):
            self.assertEqual(run(feed(ROW), cut(at), CHECK, feed(ROW[at:]), CHECK)[2::2], [[0, 1], [0, 1]], at)

    def test_on_another_story_behind_a_cut(self):
        at = len(journal(TOLD[:13]))
        other = journal(["second back 13", "boss scale 0 7", "hand move pit dump 1", "boss close"])
        self.assertEqual(run(feed(ROW), cut(at), feed(other), CHECK)[2:], [[0, 0, 4, 0, 0, 0, 0], [0, 1]])

    def test_on_a_pending_journal(self):
        for tail in ("0", "000003", "000003 ab", "000001 x#00120"):
            self.assertEqual(run(feed(ROW + codes_of(tail)), CHECK)[1], [0, 1], tail)
        self.assertEqual(run(feed("00"), CHECK)[1], [0, 1])

    def test_on_a_broken_journal(self):
        for tail in ("x", "000201", "000003_abc", "000001 xx"):
            row = ROW + codes_of(tail) + record("boss close")
            self.assertEqual(run(feed(row), CHECK, feed("0"), CHECK)[1:], [[0, 1], [-2], [0, 1]], tail)
        self.assertEqual(run(feed(ROW), feed("0"), feed("x"), CHECK)[3], [0, 1])

    def test_behind_wrong_sums(self):
        row = ROW + record("boss close", 1) + record("boss close")
        self.assertEqual(run(feed(row), CHECK)[1], [0, 1])

    def test_behind_refused_calls(self):
        refused = [feed([300]), feed([48, -1]), feed([48] * 3000), cut(-1), cut(6000), show(-1, 0), ask_record(0),
                   ask_record(99), ask_place("none"), asof(99), ask_month(9), ask_royalty(0), ask_sum([256]),
                   ask_written([]), ask_trail("none")]
        full = record([120] * 186) * 25
        found = run(*feeds(full), *refused, CHECK)
        self.assertEqual([len(answer) for answer in found[2:-1]], [1] * len(refused))
        self.assertTrue(all(answer[0] < 0 for answer in found[2:-1]))
        self.assertEqual(found[-1], [0, 1])

    def test_changes_nothing(self):
        shown = [[2], BALANCE, show(0, 1000), ask_record(15), ask_trail("mill"), ask_royalty(1), [10], [13]]
        found = run(feed(ROW + codes_of("00")), *shown, CHECK, *shown, feed("0"), CHECK)
        self.assertEqual(found[1:9], found[10:18])
        self.assertEqual(found[18:], [[0, 0, 0], [0, 1]])


class Differences(unittest.TestCase):
    """What no call can bring about: a book that isn't what its journal says."""

    def check(self, change):
        desk = Desk()
        answer_feed(desk, list(ROW))
        self.assertEqual(answer_check(desk, []), [0, 1])
        change(desk.journal)
        self.assertEqual(answer_check(desk, []), [0, 0])

    def test_bytes(self):
        self.check(lambda journal: journal.taken.pop())
        self.check(lambda journal: journal.taken.append(120))

    def test_how_far_it_is_read(self):
        self.check(lambda journal: setattr(journal, "settled", 0))
        self.check(lambda journal: setattr(journal, "broken", True))

    def test_users(self):
        self.check(lambda journal: journal.books.users.update(late=1))
        self.check(lambda journal: journal.books.users.update(boss=2))
        self.check(lambda journal: journal.books.users.pop("hand"))
        # Their order is told too.
        self.check(lambda journal: journal.books.users.update(boss=journal.books.users.pop("boss")))

    def test_metals_month_and_scale(self):
        self.check(lambda journal: journal.books.metals.append("iron"))
        self.check(lambda journal: setattr(journal.books, "month", 1))
        self.check(lambda journal: setattr(journal.books, "scale", []))
        self.check(lambda journal: setattr(journal.books, "scale", [0, 5, 10, 7]))

    def test_places(self):
        self.check(lambda journal: journal.books.places.pop("stock"))
        self.check(lambda journal: journal.books.places["pit"].gain([0, 1]))
        self.check(lambda journal: journal.books.places["pit"].gain([1, 0]))
        for name, value in (("opened", True), ("kind", "sold"), ("number", 9)):
            self.check(lambda journal: setattr(journal.books.places["heap"], name, value))
        self.check(lambda journal: journal.books.places.update(pit=journal.books.places.pop("pit")))
        self.check(lambda journal: journal.books.places.update(other=journal.books.places.pop("stock")))

    def test_records(self):
        self.check(lambda journal: journal.books.records.pop())
        for name, value in (("end", 1), ("month", 9), ("user", "boss"), ("code", 9), ("taken_back", True), ("move", None)):
            self.check(lambda journal: setattr(journal.books.records[12], name, value))

    def test_moves(self):
        def moved(journal, source, target, amounts):
            places = journal.books.places
            journal.books.records[12].move = Move(places[source], places[target], amounts)
        self.check(lambda journal: moved(journal, "heap", "mill", [5, 12]))
        self.check(lambda journal: moved(journal, "pit", "heap", [5, 12]))
        self.check(lambda journal: moved(journal, "pit", "mill", [4, 12]))
        self.check(lambda journal: moved(journal, "pit", "mill", [5, 13]))


if __name__ == "__main__":
    unittest.main()
