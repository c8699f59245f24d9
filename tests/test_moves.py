"""What goes from place to place: move, ship, back; and close, with the month in which a record stands."""

import unittest

from helper import BALANCE, PLACES, STATUS, USERS, after, ask_place, ask_record, codes, journal

TWO_METALS = USERS + ["boss metal gold", "boss metal iron"] + PLACES
ONE_METAL = USERS + ["boss metal gold"] + PLACES
NO_METAL = USERS + PLACES


def places_of(payloads):
    """Each place's amounts, by its name."""
    names = ("pit", "heap", "mill", "dump", "buyer", "stock")
    return dict(zip(names, [found[3:] for found in after(payloads, *[ask_place(name) for name in names])]))


class MoveTest(unittest.TestCase):
    def check(self, before, cases):
        """Each of the cases, a payload and its code, alone behind the payloads before it."""
        self.assertEqual(codes(before), [0] * len(before))
        for payload, code in cases:
            with self.subTest(payload=payload):
                self.assertEqual(codes(before + [payload])[-1], code)

    def moved(self, payloads, number):
        """What a record moved: from, to, and the amounts."""
        return after(payloads, ask_record(number))[0][5:]


class Moves(MoveTest):
    def test_without_metals(self):
        told = NO_METAL + ["boss open pit 10", "hand move pit heap 3"]
        self.assertEqual(places_of(told)["pit"], [7])
        self.assertEqual(places_of(told)["heap"], [3])
        self.assertEqual(self.moved(told, len(told)), [1, 2, 3])

    def test_rounds_down_with_one_metal(self):
        told = ONE_METAL + ["boss open pit 3 100", "hand move pit mill 2"]
        self.assertEqual(places_of(told)["pit"], [1, 34])
        self.assertEqual(places_of(told)["mill"], [2, 66])
        self.assertEqual(self.moved(told, len(told)), [1, 3, 2, 66])

    def test_rounds_down_with_two_metals(self):
        told = TWO_METALS + ["boss open heap 7 20 6", "hand move heap dump 1", "hand move heap stock 5"]
        self.assertEqual(self.moved(told, len(told) - 1), [2, 4, 1, 2, 0])
        # Of 6 kilograms with 18 and 6 that are left, 5 kilograms have 15 and 5.
        self.assertEqual(self.moved(told, len(told)), [2, 6, 5, 15, 5])
        self.assertEqual(places_of(told)["heap"], [1, 3, 1])

    def test_great_numbers_are_exact(self):
        told = ONE_METAL + ["boss open pit 1000000000000 1000000000000000000", "hand move pit mill 999999999999"]
        self.assertEqual(places_of(told)["pit"], [1, 1000000])
        told = ONE_METAL + ["boss open pit 999999999999 999999999999999999", "hand move pit mill 999999999998"]
        self.assertEqual(places_of(told)["mill"], [999999999998, 999999999999999999 * 999999999998 // 999999999999])

    def test_the_whole_of_a_place(self):
        told = TWO_METALS + ["boss open pit 7 11 13", "hand move pit heap 7"]
        self.assertEqual(places_of(told)["pit"], [0, 0, 0])
        self.assertEqual(places_of(told)["heap"], [7, 11, 13])
        self.assertEqual(codes(told + ["hand move pit heap 1"])[-1], 8)

    def test_into_a_place_that_has_some(self):
        told = ONE_METAL + ["boss open pit 10 10", "boss open stock 5 50", "hand move pit stock 4"]
        self.assertEqual(places_of(told)["stock"], [9, 54])

    def test_kinds(self):
        kinds = {"pit": "ground", "heap": "pile", "mill": "plant", "dump": "waste", "buyer": "sold", "stock": "pile"}
        before = NO_METAL + ["boss open pit 1", "boss open heap 1", "boss open stock 1"]
        for source in kinds:
            for target in kinds:
                allowed = kinds[source] in ("ground", "pile") and kinds[target] in ("pile", "plant", "waste")
                with self.subTest(source=source, target=target):
                    code = codes(before + ["hand move %s %s 1" % (source, target)])[-1]
                    self.assertEqual(code, 0 if allowed and source != target else 9)

    def test_from_ground_to_another_ground(self):
        self.check(NO_METAL + ["boss place shaft ground", "boss open pit 5"], [("hand move pit shaft 1", 9)])

    def test_codes_and_their_order(self):
        self.check(NO_METAL + ["boss open pit 5"], [
            ("hand move none heap 1", 6), ("hand move pit none 1", 6), ("hand move none none 0", 6),
            ("hand move heap heap 1", 9), ("hand move mill heap 0", 9), ("hand move pit pit 9", 9),
            ("hand move pit heap 0", 10), ("hand move pit heap 1000000000001", 10),
            ("hand move pit heap 1000000000000", 8), ("hand move pit heap 6", 8), ("hand move pit heap 5", 0),
            ("hand move heap stock 1", 8), ("hand move heap stock 0", 10),
            ("hand move pit heap 9999999999999999999", 10),
        ])

    def test_the_most_kilograms(self):
        self.check(NO_METAL + ["boss open pit 1000000000000"], [("hand move pit heap 1000000000000", 0)])
        two = ["boss open pit 1000000000000", "boss open heap 1000000000000", "hand move pit heap 1000000000000"]
        self.check(NO_METAL + two, [("hand move heap mill 1000000000001", 10)])
        self.assertEqual(places_of(NO_METAL + two)["heap"], [2000000000000])

    def test_refused_moves_nothing(self):
        told = NO_METAL + ["boss open pit 5", "hand move pit heap 6"]
        self.assertEqual(places_of(told)["pit"], [5])
        self.assertEqual(self.moved(told, len(told)), [])


class Ships(MoveTest):
    LOADED = ["boss open pit 100 200 300", "hand move pit mill 50"]

    def test_to_waste_and_sold(self):
        told = TWO_METALS + self.LOADED + ["hand ship mill dump 10 0 150", "hand ship mill buyer 5 100 0"]
        self.assertEqual(places_of(told), {
            "pit": [50, 100, 150], "heap": [0, 0, 0], "mill": [35, 0, 0],
            "dump": [10, 0, 150], "buyer": [5, 100, 0], "stock": [0, 0, 0],
        })
        self.assertEqual(self.moved(told, len(told)), [3, 5, 5, 100, 0])

    def test_codes_and_their_order(self):
        most = 10 ** 18
        self.check(TWO_METALS + self.LOADED, [
            ("hand ship none dump 1 1 1", 6), ("hand ship mill none 1 1 1", 6), ("hand ship none pit 0 1 1", 6),
            ("hand ship mill mill 1 1 1", 9), ("hand ship mill pit 1 1 1", 9), ("hand ship mill heap 0 1 1", 9),
            ("hand ship pit dump 1 1 1", 9), ("hand ship heap dump 1 1 1", 9), ("hand ship dump buyer 1 1 1", 9),
            ("hand ship buyer dump 1 1 1", 9), ("hand ship dump dump 1 1 1", 9),
            ("hand ship mill dump 0 1 1", 10), ("hand ship mill dump 0 999 1", 10),
            ("hand ship mill dump 1000000000001 1 1", 10), ("hand ship mill dump 1000000000000 1 1", 8),
            ("hand ship mill dump 1 %d 1" % (most + 1), 10), ("hand ship mill dump 1 1 %d" % (most + 1), 10),
            ("hand ship mill dump 1 %d 1" % most, 8), ("hand ship mill dump 1 1 %d" % most, 8),
            ("hand ship mill dump 51 1 1", 8), ("hand ship mill dump 1 101 1", 8), ("hand ship mill dump 1 1 151", 8),
            ("hand ship mill dump 50 100 150", 0), ("hand ship mill buyer 1 0 0", 0),
        ])

    def test_from_a_plant_to_another(self):
        self.check(NO_METAL + ["boss place kiln plant", "boss open pit 5", "hand move pit mill 5"], [
            ("hand ship mill kiln 1", 9),
        ])

    def test_the_most_micrograms(self):
        most = 10 ** 18
        self.check(ONE_METAL + ["boss open pit 5 %d" % most, "hand move pit mill 5"], [
            ("hand ship mill dump 1 %d" % most, 0),
        ])


class Backs(MoveTest):
    # The move is record 13, the ship record 14.
    MOVED = ONE_METAL + ["boss open pit 10 25", "hand move pit mill 5", "hand ship mill buyer 2 3"]

    def test_of_a_move(self):
        told = ONE_METAL + ["boss open pit 10 25", "hand move pit mill 5", "clerk back 13"]
        self.assertEqual(codes(told), [0] * 14)
        self.assertEqual(places_of(told)["pit"], [10, 25])
        self.assertEqual(places_of(told)["mill"], [0, 0])
        records = after(told, ask_record(13), ask_record(14))
        self.assertEqual(records, [
            [0, 0, 1, 1, len(journal(told[:13])), 1, 3, 5, 12], [0, 0, 1, 0, len(journal(told)), 3, 1, 5, 12],
        ])

    def test_of_a_ship(self):
        told = self.MOVED + ["clerk back 14"]
        self.assertEqual(places_of(told)["mill"], [5, 12])
        self.assertEqual(places_of(told)["buyer"], [0, 0])
        self.assertEqual(self.moved(told, 15), [5, 3, 2, 3])

    def test_of_a_back(self):
        told = self.MOVED + ["clerk back 14", "second back 15"]
        self.assertEqual(codes(told)[-2:], [0, 0])
        self.assertEqual(places_of(told)["buyer"], [2, 3])
        self.assertEqual(self.moved(told, 16), [3, 5, 2, 3])
        taken = [found[3] for found in after(told, ask_record(14), ask_record(15), ask_record(16))]
        self.assertEqual(taken, [1, 1, 0])
        # Record 14 stays taken back, though what took it back is taken back too.
        self.assertEqual(codes(told + ["clerk back 14", "second back 16", "clerk back 16"])[-3:], [11, 12, 0])

    def test_codes(self):
        self.check(self.MOVED, [
            ("hand back 14", 4), ("hand back 99", 4), ("clerk back 14", 0), ("second back 14", 0), ("boss back 14", 0),
            ("clerk back 0", 11), ("clerk back 15", 11), ("clerk back 16", 11), ("clerk back 9999999999999999999", 11),
            ("clerk back 1", 11), ("clerk back 12", 11), ("boss back 12", 11), ("clerk back 13", 8),
        ])

    def test_twice(self):
        self.check(self.MOVED + ["clerk back 14"], [("second back 14", 11), ("clerk back 14", 11)])

    def test_of_a_record_that_was_refused(self):
        told = self.MOVED + ["hand move pit mill 99", "clerk back 15"]
        self.assertEqual(codes(told)[-2:], [8, 11])

    def test_refused_takes_nothing_back(self):
        told = self.MOVED + ["clerk back 13", "clerk back 14", "clerk back 13"]
        self.assertEqual(codes(told)[-3:], [8, 0, 0])
        self.assertEqual(after(self.MOVED + ["clerk back 13"], ask_record(13))[0][3], 0)
        self.assertEqual(self.moved(told, 15), [])

    def test_by_the_same_user(self):
        told = ONE_METAL + ["boss open pit 10 25", "clerk move pit mill 5"]
        self.check(told, [("clerk back 13", 12), ("second back 13", 0)])
        # Taken back already comes before the same user; the same user before too little.
        self.check(told + ["second back 13"], [("clerk back 13", 11), ("second back 14", 12)])
        self.check(told + ["hand ship mill dump 5 12"], [("clerk back 13", 12), ("second back 13", 8)])

    def test_less_of_a_metal_alone(self):
        told = ONE_METAL + ["boss open pit 10 25", "hand move pit mill 5", "hand move pit mill 1", "hand ship mill dump 1 12"]
        self.check(told, [("clerk back 13", 8), ("clerk back 14", 0)])

    def test_less_kilograms_alone(self):
        self.check(ONE_METAL + ["boss open pit 10 25", "hand move pit mill 5", "hand ship mill dump 1 0"], [
            ("clerk back 13", 8),
        ])


class Months(MoveTest):
    def test_close(self):
        self.check(NO_METAL, [("boss close", 0), ("clerk close", 4), ("hand close", 4)])
        self.assertEqual(after(NO_METAL + ["boss close", "clerk close", "boss close"], STATUS)[0][-1], 3)

    def test_the_month_in_which_a_record_stands(self):
        told = NO_METAL + ["boss open pit 5", "boss close", "hand move pit heap 1", "boss close", "clerk back 13", "leap"]
        months = [found[2] for found in after(told, *[ask_record(number) for number in range(10, 17)])]
        self.assertEqual(months, [1, 1, 1, 2, 2, 3, 3])

    def test_balance_goes_on(self):
        told = NO_METAL + ["boss open pit 5", "boss close"]
        self.assertEqual(after(told, BALANCE)[0][:4], [0, 6, 1, 5])


if __name__ == "__main__":
    unittest.main()
