"""What each payload does, and the code that it answers: who speaks, forms, user, metal, place, open, scale, note."""

import unittest

from helper import BALANCE, PLACES, STATUS, USERS, after, ask_place, codes, codes_of, last_code

KILOGRAMS = 10 ** 12
MICROGRAMS = 10 ** 18


class CommandTest(unittest.TestCase):
    def check(self, before, cases):
        """Each of the cases, a payload and its code, alone behind the payloads before it."""
        for payload, code in cases:
            with self.subTest(payload=payload):
                self.assertEqual(codes(before + [payload]), [0] * len(before) + [code])


class WhoSpeaks(CommandTest):
    def test_nobody_before_the_first_user(self):
        self.check([], [
            ("- user boss 3", 0), ("- user boss 1", 0), ("-", 3), ("- note", 3), ("- leap", 3), ("- close", 3),
            ("-- user boss 3", 3), ("boss user boss 3", 3), ("boss", 3), ("user boss 3", 3), ("? user boss 3", 3),
            ("- user", 2), ("- user boss", 2), ("- user boss 3 3", 2), ("- user Boss 3", 2), ("- user boss x", 2),
            ("- user boss 4", 10), ("- user boss 0", 10),
        ])

    def test_nobody_behind_the_first_user(self):
        self.check(["- user hand 1"], [
            ("- user boss 3", 3), ("- user", 3), ("-", 3), ("- note", 3), ("hand note", 0),
        ])

    def test_nobody_as_long_as_there_is_no_user(self):
        self.assertEqual(codes(["- user boss 4", "- user b! 3", "- user boss 3", "- user next 3"]), [10, 2, 0, 3])

    def test_no_such_user_comes_before_a_wrong_form(self):
        self.check(USERS, [
            ("nobody", 3), ("nobody leap", 3), ("nobody user", 3), ("Boss note", 3), ("bos note", 3), ("bosss note", 3),
        ])

    def test_no_command(self):
        self.check(USERS, [("boss", 2), ("boss leap", 2), ("boss Note", 2), ("boss boss", 2), ("boss -", 2),
                           ("boss notes", 2), ("boss not", 2)])


class Forms(CommandTest):
    def test_names(self):
        self.check(USERS, [
            ("boss metal a", 0), ("boss metal z9", 0), ("boss metal abcdefgh", 0), ("boss metal a2345678", 0),
            ("boss metal abcdefghi", 2), ("boss metal 9a", 2), ("boss metal 9", 2), ("boss metal A", 2),
            ("boss metal aB", 2), ("boss metal a-b", 2), ("boss metal -", 2), ("boss metal a_", 2),
            ("boss metal a?", 2), ("boss metal a\n", 2), ("boss metal \xe9", 2), ("boss metal a\x00", 2),
        ])

    def test_the_letters_and_digits_at_their_ends(self):
        for byte in range(256):
            if byte == 32:
                continue
            with self.subTest(byte=byte):
                letter = 97 <= byte <= 122
                digit = 48 <= byte <= 57
                self.assertEqual(last_code(*USERS, codes_of("boss metal ") + [byte]), 0 if letter else 2)
                self.assertEqual(last_code(*USERS, codes_of("boss metal a") + [byte]), 0 if letter or digit else 2)
                self.assertEqual(last_code(*USERS, codes_of("boss back 1") + [byte]), 11 if digit else 2)

    def test_numerals(self):
        self.check(USERS, [
            ("boss user new 1", 0), ("boss user new 9999999999999999999", 10), ("boss user new 10000000000000000000", 2),
            ("boss user new 01", 2), ("boss user new 00", 2), ("boss user new 0", 10), ("boss user new -1", 2),
            ("boss user new +1", 2), ("boss user new 1.0", 2), ("boss user new one", 2),
            ("boss user new 0000000000000000001", 2),
        ])

    def test_counts_of_words(self):
        self.check(USERS + PLACES, [
            ("boss user", 2), ("boss user new", 2), ("boss user new 1 1", 2), ("boss user 1 new", 2),
            ("boss metal", 2), ("boss metal gold gold", 2),
            ("boss place", 2), ("boss place new", 2), ("boss place new pile pile", 2), ("boss place pile new", 2),
            ("boss place new hole", 2), ("boss place new Pile", 2), ("boss place new 1", 2), ("boss place New pile", 2),
            ("boss open", 2), ("boss open pit", 2), ("boss open pit 1 1", 2), ("boss open 1 1", 2),
            ("boss open pit x", 2), ("boss open pit 01", 2),
            ("boss move pit", 2), ("boss move pit heap", 2), ("boss move pit heap 1 1", 2), ("boss move pit 1 heap", 2),
            ("boss move pit Heap 1", 2), ("boss move Pit heap 1", 2), ("boss move pit heap 01", 2),
            ("boss ship mill", 2), ("boss ship mill dump", 2), ("boss ship mill dump 1 1", 2),
            ("boss ship mill dump x", 2), ("boss ship 1 dump 1", 2),
            ("boss back", 2), ("boss back 1 1", 2), ("boss back pit", 2), ("boss back 01", 2),
            ("boss close 1", 2), ("boss close now", 2),
            ("boss scale", 2), ("boss scale 0", 2), ("boss scale 0 1 2", 2), ("boss scale 0 x", 2), ("boss scale 0 01", 2),
        ])

    def test_a_numeral_for_each_metal(self):
        for metals in range(3):
            told = ["boss metal " + name for name in ("gold", "iron")[:metals]]
            for count in range(5):
                with self.subTest(metals=metals, count=count):
                    fits = count == 1 + metals
                    numerals = " 1" * count
                    self.assertEqual(last_code(*USERS, *told, *PLACES, "boss open pit" + numerals), 0 if fits else 2)
                    self.assertEqual(
                        last_code(*USERS, *told, *PLACES, "boss ship mill dump" + numerals), 8 if fits else 2)

    def test_wrong_form_comes_before_rank(self):
        self.check(USERS + PLACES, [
            ("hand user new x", 2), ("hand metal 1", 2), ("hand place new hole", 2), ("hand open pit", 2),
            ("hand back x", 2), ("hand close 1", 2), ("hand scale 0", 2),
        ])


class Users(CommandTest):
    def test_ranks_told(self):
        self.check(USERS, [
            ("boss user new 0", 10), ("boss user new 1", 0), ("boss user new 2", 0), ("boss user new 3", 0),
            ("boss user new 4", 10),
        ])

    def test_rank_asked(self):
        self.check(USERS, [
            ("clerk user new 1", 4), ("hand user new 1", 4),
            ("clerk user boss 9", 4), ("boss user boss 9", 5), ("boss user clerk 3", 5),
        ])

    def test_a_new_user_speaks_with_its_rank(self):
        self.assertEqual(codes(USERS + ["boss user new 2", "new metal gold", "new close"])[4:], [0, 0, 4])

    def test_a_name_told_again_keeps_its_rank(self):
        self.assertEqual(codes(USERS + ["boss user hand 3", "hand close"])[4:], [5, 4])

    def test_eight_at_most(self):
        full = USERS + ["boss user u%d 1" % number for number in range(4)]
        self.check(full, [
            ("boss user more 1", 7), ("boss user more 9", 7), ("boss user u3 9", 5), ("clerk user more 1", 4),
            ("u3 note", 0),
        ])
        self.check(full[:-1], [("boss user more 1", 0)])


class Metals(CommandTest):
    def test_two_at_most(self):
        two = USERS + ["boss metal gold", "clerk metal iron"]
        self.check(two, [("boss metal zinc", 7), ("boss metal gold", 5), ("boss metal iron", 5), ("hand metal gold", 4)])

    def test_rank_asked(self):
        self.check(USERS, [("hand metal gold", 4), ("clerk metal gold", 0)])

    def test_none_behind_a_place(self):
        before = USERS + ["boss metal gold", "boss place pit ground"]
        self.check(before, [("boss metal iron", 11), ("boss metal gold", 5), ("hand metal iron", 4)])

    def test_places_come_before_room(self):
        before = USERS + ["boss metal gold", "boss metal iron", "boss place pit ground"]
        self.check(before, [("boss metal zinc", 11)])

    def test_a_metal_may_be_called_like_a_user(self):
        self.check(USERS, [("boss metal boss", 0), ("boss metal metal", 0)])


class Places(CommandTest):
    def test_kinds_and_numbers(self):
        found = after(USERS + PLACES, BALANCE, ask_place("pit"), ask_place("buyer"), ask_place("stock"))
        self.assertEqual(found, [
            [0, 6, 1, 0, 2, 0, 3, 0, 4, 0, 5, 0, 2, 0], [0, 1, 1, 0], [0, 5, 5, 0], [0, 6, 2, 0],
        ])

    def test_codes(self):
        self.check(USERS + PLACES, [
            ("clerk place new pile", 0), ("hand place new pile", 4), ("hand place pit pile", 4),
            ("boss place pit ground", 5), ("boss place pit pile", 5), ("boss place boss pile", 0),
        ])

    def test_twelve_at_most(self):
        full = USERS + ["boss place p%d pile" % number for number in range(12)]
        self.check(full, [("boss place more pile", 7), ("boss place p0 pile", 5), ("hand place more pile", 4)])
        self.check(full[:-1], [("boss place more pile", 0)])
        self.assertEqual(after(full + ["boss place more pile"], BALANCE), [[0, 12] + [2, 0] * 12])

    def test_a_refused_place_takes_no_number(self):
        found = after(USERS + ["boss place pit ground", "boss place pit pile", "boss place heap pile"], ask_place("heap"))
        self.assertEqual(found, [[0, 2, 2, 0]])


class Openings(CommandTest):
    METALS = ["boss metal gold", "boss metal iron"]

    def test_codes(self):
        before = USERS + PLACES + ["boss open pit 5"]
        self.check(before, [
            ("clerk open heap 5", 0), ("hand open heap 5", 4), ("hand open none 5", 4), ("boss open none 5", 6),
            ("boss open pit 5", 5), ("boss open pit 0", 5), ("boss open pit 1000000000001", 5),
            ("boss open mill 5", 9), ("boss open dump 5", 9), ("boss open buyer 5", 9),
            ("boss open mill 1000000000001", 9), ("boss open none 1000000000001", 6),
            ("boss open heap 0", 0), ("boss open heap 1000000000000", 0), ("boss open heap 1000000000001", 10),
            ("boss open heap 9999999999999999999", 10),
        ])

    def test_limits_of_micrograms(self):
        before = USERS + self.METALS + PLACES
        self.check(before, [
            ("boss open pit 1000000000000 %d %d" % (MICROGRAMS, MICROGRAMS), 0),
            ("boss open pit 0 0 0", 0),
            ("boss open pit 0 %d 0" % (MICROGRAMS + 1), 10), ("boss open pit 0 0 %d" % (MICROGRAMS + 1), 10),
            ("boss open pit %d 0 0" % (KILOGRAMS + 1), 10),
        ])

    def test_so_much_more(self):
        moved = USERS + self.METALS + PLACES + [
            "boss open pit 100 50 7", "boss move pit heap 10", "boss open heap 1000 2 3",
        ]
        self.assertEqual(after(moved, BALANCE), [
            [0, 6, 1, 90, 45, 7, 2, 1010, 7, 3, 3, 0, 0, 0, 4, 0, 0, 0, 5, 0, 0, 0, 2, 0, 0, 0],
        ])

    def test_opened_with_nothing_is_opened(self):
        self.assertEqual(codes(USERS + PLACES + ["boss open pit 0", "boss open pit 1"])[-2:], [0, 5])

    def test_refused_is_not_opened(self):
        told = USERS + PLACES + ["boss open pit %d" % (KILOGRAMS + 1), "boss open pit 7"]
        self.assertEqual(codes(told)[-2:], [10, 0])
        self.assertEqual(after(told, ask_place("pit")), [[0, 1, 1, 7]])


class Scales(CommandTest):
    def test_codes(self):
        self.check(USERS, [
            ("boss scale 0 0", 0), ("boss scale 0 5 10 6", 0), ("clerk scale 0 5", 4), ("hand scale 1 5", 4),
            ("boss scale 1 5", 10), ("boss scale 0 5 0 6", 10), ("boss scale 0 5 10 6 10 7", 10),
            ("boss scale 0 5 10 6 9 7", 10), ("boss scale 0 9 10 8", 0), ("boss scale 5 0 10 0", 10),
            ("boss scale 0 1 1000000000000 2", 0), ("boss scale 0 1 1000000000001 2", 10),
            ("boss scale 0 1000000000", 0), ("boss scale 0 1000000001", 10),
            ("boss scale 0 1 2 1000000001", 10),
            ("boss scale 0 1 2 1 3 1 4 1 5 1 6 1", 0), ("boss scale 0 1 2 1 3 1 4 1 5 1 6 1 7 1", 10),
            ("boss scale 0 1 2 1 3 1 4 1 5 1 6 1 7", 2),
        ])


class Notes(CommandTest):
    def test_whatever_stands_behind(self):
        self.check(USERS, [
            ("boss note", 0), ("hand note", 0), ("hand note user x 9 ## 01 99999999999999999999", 0),
            (codes_of("hand note ") + list(range(100)), 0),
        ])

    def test_nothing_changes(self):
        found = after(USERS + ["boss note place pit ground", "boss note close"], BALANCE, STATUS)
        self.assertEqual([found[0], found[1][3:]], [[0, 0], [0, 6, 1]])


if __name__ == "__main__":
    unittest.main()
