"""Promise 1: cut; and that neither pieces nor cuts make any difference."""

import random
import unittest

from helper import (
    ASK_STANDING, ASK_USERS, BALANCE, CHECK, PLACES, STATUS, USERS, ask_month, ask_place, ask_record, ask_royalty,
    ask_trail, asof, codes_of, cut, feed, feeds, journal, record, run, show,
)

TOLD = USERS + ["boss metal gold"] + PLACES + [
    "boss open pit 10 25", "hand move pit mill 5", "boss close", "hand ship mill buyer 2 3", "clerk back 15",
    "second back 16", "boss scale 0 5 10 6", "hand leap",
]
ROW = journal(TOLD)
RECORD = record("- user boss 3")


def everything(records):
    """Calls that show all there is, as far as so many records go."""
    shown = [STATUS, BALANCE, show(0, 1000), show(1000, 1000), ask_place("pit"), ask_place("mill"), ASK_USERS]
    shown += [ask_month(1), ask_month(2), ask_royalty(1), ask_royalty(2), ASK_STANDING, ask_trail("mill"), CHECK]
    return shown + [ask_record(number) for number in range(1, records + 2)]


class Cuts(unittest.TestCase):
    def test_at_zero(self):
        found = run(feed(ROW), cut(0), *everything(0))
        self.assertEqual(found[1], [0, 0, 0])
        self.assertEqual(found[2:], run(*everything(0)))

    def test_nothing_to_cut(self):
        self.assertEqual(run(cut(0), cut(1), STATUS), [[0, 0, 0], [-4], [0, 0, 0, 0, 0, 1]])

    def test_at_every_byte(self):
        for at in range(len(ROW) + 1):
            found = run(feed(ROW), cut(at), *everything(19))
            fresh = run(feed(ROW[:at]), *everything(19))
            self.assertEqual(found[2:], fresh[1:], at)
            self.assertEqual(found[1], [0, fresh[0][2], 0], at)

    def test_within_a_record_and_at_its_end(self):
        length = len(RECORD)
        row = RECORD + record("boss note")
        found = run(feed(row), cut(length + 1), STATUS, cut(length), STATUS, cut(length - 1), STATUS)
        self.assertEqual(found[1:], [
            [0, 1, 0], [0, length + 1, 1, 0, 1, 1],
            [0, 1, 0], [0, length, 0, 0, 1, 1],
            [0, 0, 0], [0, length - 1, length - 1, 0, 0, 1],
        ])

    def test_at_all_bytes_and_above(self):
        length = len(RECORD)
        found = run(feed(RECORD), cut(length), STATUS, cut(length + 1), cut(6000), STATUS)
        self.assertEqual(found[1:], [
            [0, 1, 0], [0, length, 0, 0, 1, 1], [-4], [-4], [0, length, 0, 0, 1, 1],
        ])

    def test_range(self):
        for count in (-1, 6001, 10 ** 18, -10 ** 18):
            with self.subTest(count=count):
                self.assertEqual(run(feed(RECORD), cut(count), STATUS)[1:], [[-1], [0, len(RECORD), 0, 0, 1, 1]])

    def test_six_thousand(self):
        row = record([120] * 186) * 30
        found = run(*feeds(row), cut(6000), cut(6001), cut(5999), feed([10]), cut(0), feed(row[:3000]))
        self.assertEqual(found[2:], [[0, 30, 0], [-1], [0, 29, 0], [0, 0, 1, 3], [0, 0, 0], [0, 0, 15] + [3] * 15])

    def test_a_broken_journal_is_whole_again(self):
        length = len(RECORD)
        row = RECORD + codes_of("00x0001")
        found = run(feed(row), cut(length + 3), STATUS, feed([]), cut(length + 2), STATUS, feed(record("boss note")[2:]))
        self.assertEqual(found, [
            [0, 1, 1, 0],
            [0, 1, 1], [0, length + 3, 3, 1, 1, 1], [-2],
            [0, 1, 0], [0, length + 2, 2, 0, 1, 1],
            [0, 0, 1, 0],
        ])

    def test_a_broken_journal_cut_at_its_whole_length(self):
        row = RECORD + codes_of("x")
        self.assertEqual(run(feed(row), cut(len(row)), cut(len(RECORD)))[1:], [[0, 1, 1], [0, 1, 0]])

    def test_feeding_on_behind_it(self):
        for at in range(0, len(ROW) + 1, 7):
            found = run(feed(ROW), cut(at), feed(ROW[at:]), *everything(19))
            self.assertEqual(found[3:], run(feed(ROW), *everything(19))[1:], at)

    def test_another_story_behind_it(self):
        length = len(RECORD)
        row = RECORD + journal(["boss user clerk 2", "clerk place pit ground"])
        found = run(feed(row), cut(length), feed(journal(["clerk note", "boss place heap pile"])), BALANCE)
        self.assertEqual(found[2:], [[0, 0, 2, 3, 0], [0, 1, 2, 0]])

    def test_what_was_taken_back_is_so_no_more(self):
        at = len(journal(TOLD[:15]))
        found = run(feed(ROW), ask_record(15), cut(at), ask_record(15), ask_record(16))
        self.assertEqual([found[1][3], found[3][3], found[4]], [1, 0, [-5]])


class Pieces(unittest.TestCase):
    def story(self, chance):
        """A journal by chance: mostly sound records, some with a byte gone wrong."""
        names = ["pit", "heap", "mill", "dump", "buyer", "stock", "none"]
        payloads = list(TOLD[:12])
        for number in range(20):
            one, other = chance.choice(names), chance.choice(names)
            amount = chance.choice([0, 1, 2, 3, 7, 10])
            user = chance.choice(["boss", "clerk", "second", "hand", "-"])
            payloads.append(user + " " + chance.choice([
                "move %s %s %d" % (one, other, amount), "ship %s %s %d %d" % (one, other, amount, amount),
                "back %d" % (12 + amount), "close", "note", "open %s %d 5" % (one, amount), "move pit mill 1",
            ]))
        row = journal(payloads)
        if chance.randrange(2) == 0:
            row[chance.randrange(len(row))] = chance.randrange(256)
        return row

    def test_pieces_make_no_difference(self):
        chance = random.Random(1)
        for turn in range(60):
            row = self.story(chance)
            whole = run(feed(row), *everything(33))
            marks = sorted([0, len(row)] + [chance.randrange(len(row)) for number in range(20)])
            pieces = [feed(row[low:high]) for low, high in zip(marks, marks[1:])]
            found = run(*pieces, *everything(33))
            fed = [answer for answer in found[:len(pieces)] if answer != [-2]]
            gathered = [code for answer in fed for code in answer[3:]]
            self.assertEqual(gathered, whole[0][3:], turn)
            if whole[0][1] == 0:
                self.assertEqual(found[len(pieces):], whole[1:], turn)
            else:
                # Bytes behind the break are refused when they come in a piece of their own.
                self.assertEqual(fed[-1][1], 1, turn)
                taken = found[len(pieces)][1]
                self.assertEqual(found[len(pieces):], run(feed(row[:taken]), *everything(33))[1:], turn)

    def test_cuts_make_no_difference(self):
        chance = random.Random(2)
        for turn in range(60):
            row = self.story(chance)
            at = chance.randrange(len(row) + 1)
            found = run(feed(row), cut(at), *everything(33), asof(0))
            self.assertEqual(found[2:], run(feed(row[:at]), *everything(33), asof(0))[1:], turn)

    def test_nothing_is_lost_or_made(self):
        chance = random.Random(3)
        for turn in range(60):
            row = self.story(chance)
            found = run(feed(row), BALANCE, *[ask_record(number) for number in range(1, 33)])
            codes = found[0][3:]
            places = found[1][1]
            held = [sum(found[1][2 + 1 + part::3]) for part in range(2)]
            self.assertEqual(len(found[1]), 2 + 3 * places, turn)
            self.assertTrue(all(number >= 0 for number in found[1]), turn)
            if len(codes) < 32 or 1 in codes:
                continue
            opened = [0, 0]
            for number in range(32):
                start = found[2 + number - 1][4] if number > 0 else 0
                words = bytes(row[start:found[2 + number][4]])[7:-7].decode("latin-1").split()
                if codes[number] == 0 and words[1] == "open":
                    opened = [opened[0] + int(words[3]), opened[1] + int(words[4])]
            self.assertEqual(held, opened, turn)


if __name__ == "__main__":
    unittest.main()
