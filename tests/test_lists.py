"""Promises 10, 13 and 14: users, open and trail."""

import unittest

from helper import (
    ASK_STANDING, ASK_USERS, FAR, PLACES, USERS, after, ask_trail, codes, codes_of, cut, feed, journal, record, run,
)

ONE_METAL = USERS + ["boss metal gold"] + PLACES
# The move is record 13, the ship record 14.
MOVED = ONE_METAL + ["boss open pit 10 25", "hand move pit mill 5", "hand ship mill buyer 2 3"]


class Users(unittest.TestCase):
    def test_none(self):
        self.assertEqual(run(ASK_USERS), [[0, 0]])

    def test_one(self):
        self.assertEqual(after(["- user boss 3"], ASK_USERS), [[0, 1, 3, 4, 98, 111, 115, 115]])
        self.assertEqual(after(["- user z 1"], ASK_USERS), [[0, 1, 1, 1, 122]])

    def test_the_longest_name(self):
        self.assertEqual(after(["- user abcdefg9 2"], ASK_USERS), [[0, 1, 2, 8] + codes_of("abcdefg9")])

    def test_eight_in_the_order_told(self):
        named = [("m", 3), ("zebra", 1), ("a", 2), ("abcdefgh", 3), ("b1", 1), ("b", 2), ("a0", 1), ("y9876543", 2)]
        told = ["- user m 3"] + ["m user %s %d" % user for user in named[1:]]
        wanted = [0, 8]
        for name, rank in named:
            wanted += [rank, len(name)] + codes_of(name)
        self.assertEqual(after(told, ASK_USERS), [wanted])
        # A ninth finds no room.
        self.assertEqual(after(told + ["m user late 1"], ASK_USERS), [wanted])

    def test_what_was_refused_is_no_user(self):
        told = ["- user boss 3", "boss user low 0", "boss user high 4", "boss user boss 1", "boss user x y", "- user q 1"]
        row = journal(told) + record("boss user wrong 1", 1)
        self.assertEqual(run(feed(row), ASK_USERS)[1], [0, 1, 3, 4] + codes_of("boss"))

    def test_behind_a_cut(self):
        told = ["- user boss 3", "boss user clerk 2"]
        found = run(feed(journal(told)), cut(len(journal(told)) - 1), ASK_USERS, cut(0), ASK_USERS)
        self.assertEqual(found[2::2], [[0, 1, 3, 4] + codes_of("boss"), [0, 0]])


class Standing(unittest.TestCase):
    def test_none(self):
        self.assertEqual(run(ASK_STANDING), [[0]])
        self.assertEqual(after(MOVED[:12], ASK_STANDING), [[0]])

    def test_moves_and_ships(self):
        self.assertEqual(after(MOVED, ASK_STANDING), [[0, 13, 14]])

    def test_what_is_taken_back(self):
        self.assertEqual(after(MOVED + ["clerk back 14"], ASK_STANDING), [[0, 13, 15]])

    def test_the_back_of_a_back(self):
        told = MOVED + ["clerk back 14", "second back 15"]
        self.assertEqual(after(told, ASK_STANDING), [[0, 13, 16]])
        self.assertEqual(after(told + ["clerk back 16"], ASK_STANDING), [[0, 13, 17]])

    def test_records_that_did_nothing_between_them(self):
        told = MOVED + ["hand move pit mill 99", "boss close", "boss note", "hand move pit heap 1", "leap",
                        "hand back 13", "clerk back 13", "clerk back 14", "boss scale 0 5", "clerk back 13"]
        self.assertEqual(codes(told)[14:], [8, 0, 0, 0, 3, 4, 8, 0, 0, 0])
        self.assertEqual(after(told, ASK_STANDING), [[0, 18, 22, 24]])

    def test_a_wrong_sum(self):
        row = journal(MOVED) + record("hand move pit mill 1", 1) + record("hand move pit mill 1")
        self.assertEqual(run(feed(row), ASK_STANDING)[1], [0, 13, 14, 16])

    def test_a_cut_behind_which_nothing_is_taken_back(self):
        row = journal(MOVED + ["clerk back 14"])
        self.assertEqual(run(feed(row), cut(len(row) - 1), ASK_STANDING)[2], [0, 13, 14])


class Trail(unittest.TestCase):
    def test_to_it_and_from_it(self):
        found = after(MOVED, ask_trail("pit"), ask_trail("mill"), ask_trail("buyer"))
        self.assertEqual(found, [[0, 13, 0, 5], [0, 13, 1, 5, 14, 0, 2], [0, 14, 1, 2]])

    def test_a_place_without_any(self):
        self.assertEqual(after(MOVED, ask_trail("heap"), ask_trail("dump"), ask_trail("stock")), [[0]] * 3)
        # Opening is no move.
        self.assertEqual(after(MOVED[:12], ask_trail("pit")), [[0]])

    def test_from_pile_to_pile(self):
        told = ONE_METAL + ["boss open heap 9 9", "hand move heap stock 7", "hand move stock heap 3"]
        self.assertEqual(after(told, ask_trail("heap"), ask_trail("stock")), [
            [0, 13, 0, 7, 14, 1, 3], [0, 13, 1, 7, 14, 0, 3],
        ])

    def test_backs(self):
        told = MOVED + ["clerk back 14", "second back 15", "boss close", "boss back 16", "clerk back 13"]
        self.assertEqual(codes(told)[14:], [0] * 5)
        found = after(told, ask_trail("buyer"), ask_trail("mill"), ask_trail("pit"))
        self.assertEqual(found, [
            [0, 14, 1, 2, 15, 0, 2, 16, 1, 2, 18, 0, 2],
            [0, 13, 1, 5, 14, 0, 2, 15, 1, 2, 16, 0, 2, 18, 1, 2, 19, 0, 5],
            [0, 13, 0, 5, 19, 1, 5],
        ])

    def test_kilograms_without_and_with_metals(self):
        told = USERS + PLACES + ["boss open pit 1000000000000", "hand move pit dump 1000000000000"]
        self.assertEqual(after(told, ask_trail("dump")), [[0, 12, 1, 1000000000000]])
        told = USERS + ["boss metal gold", "boss metal iron"] + PLACES + ["boss open pit 4 5 6", "hand move pit dump 2"]
        self.assertEqual(after(told, ask_trail("dump")), [[0, 14, 1, 2]])

    def test_what_did_nothing_is_not_in_it(self):
        row = journal(MOVED + ["hand move pit mill 99", "clerk back 13", "hand ship mill pit 1 1"])
        row += record("hand move pit mill 1", 1) + record("hand move pit mill 1")
        self.assertEqual(run(feed(row), ask_trail("pit"))[1], [0, 13, 0, 5, 19, 0, 1])

    def test_none_such(self):
        rows = ["", "none", "pi", "pitt", "PIT", " pit", "pit ", "pit\n", "-", "boss", "gold", "1", "?", "p\xff",
                "pit" * 1000]
        self.assertEqual(after(MOVED, *[ask_trail(row) for row in rows]), [[-6]] * len(rows))
        self.assertEqual(run(ask_trail("pit"), ask_trail("")), [[-6], [-6]])

    def test_numbers_that_are_no_bytes(self):
        found = after(MOVED, *[ask_trail([112, 105, number]) for number in (-1, 256, 116 + 256, 255, 0, 116) + FAR])
        self.assertEqual(found, [[-1], [-1], [-1], [-6], [-6], [0, 13, 0, 5], [-1], [-1]])
        # Out of its range comes first, also where there are no places.
        self.assertEqual(run(ask_trail([256]), ask_trail([-1] * 3000)), [[-1], [-1]])

    def test_behind_a_cut(self):
        row = journal(MOVED)
        found = run(feed(row), cut(len(row) - 1), ask_trail("mill"), cut(len(journal(MOVED[:5]))), ask_trail("mill"))
        self.assertEqual(found[2::2], [[0, 13, 1, 5], [-6]])


if __name__ == "__main__":
    unittest.main()
