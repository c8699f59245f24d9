"""Promises 8 and 9: month and royalty."""

import unittest

from helper import (
    FAR, PLACES, USERS, after, ask_month, ask_royalty, codes, codes_of, cut, feed, journal, record, run,
)

NO_METAL = USERS + PLACES
ONE_METAL = USERS + ["boss metal gold"] + PLACES
TWO_METALS = USERS + ["boss metal gold", "boss metal iron"] + PLACES
WRONG_MONTHS = (0, -1, 1001) + FAR


class DoneTest(unittest.TestCase):
    def ask(self, told, *calls):
        """The answers to calls behind payloads that are all done."""
        self.assertEqual(codes(told), [0] * len(told))
        return after(told, *calls)


class Month(DoneTest):
    def test_new(self):
        self.assertEqual(run(ask_month(1)), [[0, 0, 0, 0, 0, 0]])

    def test_without_places(self):
        metals = USERS + ["boss metal gold", "boss metal iron"]
        self.assertEqual(self.ask(metals[:4], ask_month(1)), [[0] * 6])
        self.assertEqual(self.ask(metals[:5], ask_month(1)), [[0] * 11])
        self.assertEqual(self.ask(metals, ask_month(1)), [[0] * 16])

    def test_without_metals(self):
        told = NO_METAL + ["boss open pit 100", "hand move pit heap 50", "hand move heap mill 20", "hand move pit dump 7",
                           "hand ship mill dump 3", "hand ship mill buyer 4"]
        self.assertEqual(self.ask(told, ask_month(1)), [[0, -57, 30, 13, 10, 4]])

    def test_with_one_metal(self):
        told = ONE_METAL + ["boss open pit 10 25", "hand move pit mill 5", "hand ship mill buyer 2 3"]
        self.assertEqual(self.ask(told, ask_month(1)), [[0, -5, -12, 0, 0, 3, 9, 0, 0, 2, 3]])

    def test_with_two_metals(self):
        told = TWO_METALS + ["boss open pit 10 25 70", "hand move pit heap 4", "hand move heap mill 3",
                             "hand ship mill dump 2 0 21", "hand ship mill buyer 1 7 0"]
        self.assertEqual(self.ask(told, ask_month(1)), [
            [0, -4, -10, -28, 1, 3, 7, 0, 0, 0, 2, 0, 21, 1, 7, 0],
        ])

    def test_open_is_no_move(self):
        told = ONE_METAL + ["boss open pit 10 25", "boss open heap 3 4"]
        self.assertEqual(self.ask(told, ask_month(1)), [[0] * 11])

    def test_each_month_has_its_own(self):
        told = NO_METAL + ["boss open pit 100", "hand move pit mill 9", "boss close", "hand move pit heap 30",
                           "hand ship mill buyer 2", "boss close", "boss close", "hand ship mill dump 1"]
        self.assertEqual(self.ask(told, *[ask_month(month) for month in range(1, 6)]), [
            [0, -9, 0, 9, 0, 0], [0, -30, 30, -2, 0, 2], [0] * 6, [0, 0, 0, -1, 1, 0], [-7],
        ])

    def test_a_back_stands_in_its_own_month(self):
        told = ONE_METAL + ["boss open pit 10 25", "hand move pit mill 5", "hand ship mill buyer 2 3", "boss close",
                            "clerk back 14", "clerk back 13"]
        self.assertEqual(self.ask(told, ask_month(1), ask_month(2)), [
            [0, -5, -12, 0, 0, 3, 9, 0, 0, 2, 3], [0, 5, 12, 0, 0, -3, -9, 0, 0, -2, -3],
        ])

    def test_a_back_in_the_same_month(self):
        told = NO_METAL + ["boss open pit 10", "hand move pit dump 5", "clerk back 12"]
        self.assertEqual(self.ask(told, ask_month(1)), [[0] * 6])
        self.assertEqual(self.ask(told + ["second back 13"], ask_month(1)), [[0, -5, 0, 0, 5, 0]])

    def test_from_pile_to_pile(self):
        told = ONE_METAL + ["boss open heap 10 25", "hand move heap stock 3"]
        self.assertEqual(self.ask(told, ask_month(1)), [[0] * 11])
        told = told + ["hand move stock mill 2"]
        self.assertEqual(self.ask(told, ask_month(1)), [[0, 0, 0, -2, -4, 2, 4, 0, 0, 0, 0]])

    def test_several_places_of_a_kind(self):
        told = NO_METAL + ["boss place shaft ground", "boss open pit 5", "boss open shaft 6", "hand move pit heap 4",
                           "hand move shaft stock 6"]
        self.assertEqual(self.ask(told, ask_month(1)), [[0, -10, 10, 0, 0, 0]])

    def test_what_did_nothing_counts_nothing(self):
        told = NO_METAL + ["boss open pit 5", "hand move pit mill 6", "hand move pit buyer 1", "clerk back 12"]
        row = journal(told) + record("hand move pit mill 5", 1)
        self.assertEqual(run(feed(row), ask_month(1))[1], [0] * 6)

    def test_the_greatest(self):
        most = 10 ** 18
        grounds = ["pit%d" % number for number in range(10)]
        told = ["- user boss 3", "boss metal gold"] + ["boss place %s ground" % name for name in grounds]
        told += ["boss place mill plant", "boss place buyer sold"]
        told += ["boss open %s 1000000000000 %d" % (name, most) for name in grounds]
        told += ["boss move %s mill 1000000000000" % name for name in grounds]
        told += ["boss ship mill buyer 1000000000000 %d" % most] * 9
        self.assertEqual(self.ask(told, ask_month(1)), [
            [0, -10 ** 13, -10 * most, 0, 0, 10 ** 12, most, 0, 0, 9 * 10 ** 12, 9 * most],
        ])

    def test_refusals(self):
        told = NO_METAL + ["boss close", "boss close"]
        found = self.ask(told, *[ask_month(month) for month in (1, 2, 3, 4, 1000) + WRONG_MONTHS])
        self.assertEqual(found, [[0] * 6] * 3 + [[-7]] * 2 + [[-1]] * 5)
        self.assertEqual(run(ask_month(2), ask_month(1000), ask_month(1001)), [[-7], [-7], [-1]])

    def test_many_months(self):
        told = NO_METAL + ["boss close"] * 180
        self.assertEqual(self.ask(told, ask_month(180), ask_month(181), ask_month(182)), [[0] * 6, [0] * 6, [-7]])

    def test_behind_a_cut(self):
        told = NO_METAL + ["boss open pit 5", "hand move pit mill 2", "boss close", "hand move pit mill 1"]
        at = len(journal(told[:12]))
        found = run(feed(journal(told)), cut(at), ask_month(1), ask_month(2), cut(at - 1), ask_month(1))
        self.assertEqual(found[2:], [[0, -2, 0, 2, 0, 0], [-7], [0, 11, 0], [0] * 6])

    def test_broken_and_pending_bytes_are_no_matter(self):
        told = NO_METAL + ["boss open pit 5", "hand move pit mill 2"]
        for tail in ("0000", "x"):
            found = run(feed(journal(told) + codes_of(tail)), ask_month(1), ask_royalty(1))
            self.assertEqual(found[1:], [[0, -2, 0, 2, 0, 0], [0, 0, 0]])


class Royalty(DoneTest):
    LOADED = NO_METAL + ["boss open pit 1000000000000", "hand move pit mill 1000000000000"]

    def sold(self, kilograms, *scales):
        """The royalty where so many kilograms were sold, with these scales told one behind another."""
        told = self.LOADED + ["hand ship mill buyer %d" % kilograms] + ["boss scale " + scale for scale in scales]
        return self.ask(told, ask_royalty(1))[0]

    def test_new(self):
        self.assertEqual(run(ask_royalty(1)), [[0, 0, 0]])

    def test_without_a_scale(self):
        self.assertEqual(self.sold(5000), [0, 5000, 0])

    def test_nothing_sold(self):
        told = self.LOADED + ["boss scale 0 1000", "hand ship mill dump 5000"]
        self.assertEqual(self.ask(told, ask_royalty(1)), [[0, 0, 0]])

    def test_one_step(self):
        for kilograms, cents in ((1, 0), (142, 0), (143, 1), (285, 1), (286, 2), (1000, 7), (1001, 7), (10 ** 6, 7000)):
            with self.subTest(kilograms=kilograms):
                self.assertEqual(self.sold(kilograms, "0 7"), [0, kilograms, cents])

    def test_a_step_without_cents(self):
        self.assertEqual(self.sold(5000, "0 0"), [0, 5000, 0])
        self.assertEqual(self.sold(5000, "0 0 4000 9"), [0, 5000, 9])
        self.assertEqual(self.sold(5000, "0 9 4000 0"), [0, 5000, 36])

    def test_two_steps(self):
        cases = ((9999, 29), (10000, 30), (10001, 30), (10199, 30), (10200, 31), (20000, 80))
        for kilograms, cents in cases:
            with self.subTest(kilograms=kilograms):
                self.assertEqual(self.sold(kilograms, "0 3 10000 5"), [0, kilograms, cents])

    def test_six_steps(self):
        starts = [0, 10, 25, 26, 40, 70]
        prices = [1000, 300, 70000, 0, 5, 900]
        scale = " ".join("%d %d" % step for step in zip(starts, prices))
        for kilograms in [1, 9, 10, 11, 24, 25, 26, 27, 39, 40, 41, 69, 70, 71, 500]:
            total = 0
            for kilogram in range(kilograms):
                total += [price for start, price in zip(starts, prices) if start <= kilogram][-1]
            with self.subTest(kilograms=kilograms):
                self.assertEqual(self.sold(kilograms, scale), [0, kilograms, total // 1000])

    def test_six_steps_written_out(self):
        scale = "0 1 1000 2 2000 3 3000 4 4000 5 5000 6"
        cases = {999: 0, 1000: 1, 1001: 1, 1999: 2, 2000: 3, 2001: 3, 2999: 5, 3000: 6, 3999: 9, 4000: 10, 4001: 10,
                 4999: 14, 5000: 15, 5001: 15, 6000: 21}
        for kilograms, cents in cases.items():
            with self.subTest(kilograms=kilograms):
                self.assertEqual(self.sold(kilograms, scale), [0, kilograms, cents])

    def test_rounds_down_once(self):
        self.assertEqual(self.sold(3, "0 500 1 500 2 500"), [0, 3, 1])
        self.assertEqual(self.sold(2, "0 999 1 999"), [0, 2, 1])
        self.assertEqual(self.sold(2, "0 999 1 1001"), [0, 2, 2])

    def test_several_ships_are_one_sum(self):
        told = self.LOADED + ["boss scale 0 600"] + ["hand ship mill buyer 1"] * 5
        self.assertEqual(self.ask(told, ask_royalty(1)), [[0, 5, 3]])

    def test_several_sold_places(self):
        told = self.LOADED + ["boss place trader sold", "boss scale 0 1000 5 3000", "hand ship mill buyer 4",
                              "hand ship mill trader 3"]
        self.assertEqual(self.ask(told, ask_royalty(1)), [[0, 7, 11]])

    def test_below_nothing(self):
        told = self.LOADED + ["boss scale 0 1000", "hand ship mill buyer 50", "boss close", "clerk back 14"]
        self.assertEqual(self.ask(told, ask_royalty(1), ask_royalty(2)), [[0, 50, 50], [0, -50, 0]])
        self.assertEqual(self.ask(told + ["boss scale 0 7 10 9"], ask_royalty(2)), [[0, -50, 0]])

    def test_nothing_left_in_the_month(self):
        told = self.LOADED + ["boss scale 0 1000", "hand ship mill buyer 50", "hand ship mill buyer 8", "clerk back 14"]
        self.assertEqual(self.ask(told, ask_royalty(1)), [[0, 8, 8]])
        self.assertEqual(self.ask(told + ["clerk back 15"], ask_royalty(1)), [[0, 0, 0]])

    def test_each_month_by_itself(self):
        told = self.LOADED + ["boss scale 0 1000 10 2000", "hand ship mill buyer 12", "boss close",
                              "hand ship mill buyer 9", "boss close"]
        self.assertEqual(self.ask(told, *[ask_royalty(month) for month in (1, 2, 3, 4)]), [
            [0, 12, 14], [0, 9, 9], [0, 0, 0], [-7],
        ])

    def test_the_scale_as_it_is_now(self):
        told = self.LOADED + ["hand ship mill buyer 12", "boss close"]
        self.assertEqual(self.ask(told, ask_royalty(1)), [[0, 12, 0]])
        self.assertEqual(self.ask(told + ["boss scale 0 1000"], ask_royalty(1)), [[0, 12, 12]])
        self.assertEqual(self.ask(told + ["boss scale 0 1000", "boss scale 0 2000"], ask_royalty(1)), [[0, 12, 24]])

    def test_a_second_scale(self):
        self.assertEqual(self.sold(12, "0 1000", "0 3000"), [0, 12, 36])
        self.assertEqual(self.sold(12, "0 1000 5 2000 6 9000", "0 3000"), [0, 12, 36])
        self.assertEqual(self.sold(12, "0 3000", "0 1000 10 2000"), [0, 12, 14])

    def test_a_refused_scale_changes_nothing(self):
        told = self.LOADED + ["hand ship mill buyer 12", "boss scale 0 1000"]
        for scale in ("boss scale 1 5", "boss scale 0 5 0 6", "clerk scale 0 5", "boss scale 0", "boss scale",
                      "boss scale 0 1000000001", "boss scale 0 1 2 3 4 5 6 7 8 9 10 11 12 13"):
            with self.subTest(scale=scale):
                self.assertEqual(after(told + [scale], ask_royalty(1)), [[0, 12, 12]])

    def test_with_metals(self):
        told = TWO_METALS + ["boss open pit 100 900 50", "hand move pit mill 50", "boss scale 0 2000",
                             "hand ship mill buyer 7 400 20"]
        self.assertEqual(self.ask(told, ask_royalty(1)), [[0, 7, 14]])

    def test_the_greatest(self):
        most = 1000000000000
        self.assertEqual(self.sold(most, "0 1000000000"), [0, most, 10 ** 18])
        self.assertEqual(self.sold(most, "0 999999999 999999999999 1000000000"), [0, most, 999999999000000000])
        self.assertEqual(self.sold(most, "0 1 %d 1000000000" % most), [0, most, 10 ** 9])
        grounds = ["pit%d" % number for number in range(10)]
        told = ["- user boss 3"] + ["boss place %s ground" % name for name in grounds]
        told += ["boss place mill plant", "boss place buyer sold", "boss scale 0 1 %d 1000000000" % most]
        told += ["boss open %s %d" % (name, most) for name in grounds]
        told += ["boss move %s mill %d" % (name, most) for name in grounds]
        told += ["boss ship mill buyer %d" % most] * 10
        self.assertEqual(self.ask(told, ask_royalty(1)), [[0, 10 * most, 10 ** 9 + 9 * 10 ** 18]])

    def test_refusals(self):
        told = self.LOADED + ["boss close", "boss close"]
        found = self.ask(told, *[ask_royalty(month) for month in (1, 2, 3, 4, 1000) + WRONG_MONTHS])
        self.assertEqual(found, [[0, 0, 0]] * 3 + [[-7]] * 2 + [[-1]] * 5)
        self.assertEqual(run(ask_royalty(2), ask_royalty(1000), ask_royalty(1001)), [[-7], [-7], [-1]])

    def test_a_cut_takes_the_scale_away(self):
        told = self.LOADED + ["hand ship mill buyer 12", "boss scale 0 1000", "boss scale 0 2000"]
        ends = [len(journal(told[:number])) for number in range(len(told) + 1)]
        found = run(feed(journal(told)), cut(ends[15]), ask_royalty(1), cut(ends[15] - 1), ask_royalty(1),
                    cut(ends[14] - 1), ask_royalty(1), cut(ends[13] - 1), ask_royalty(1))
        self.assertEqual(found[2::2], [[0, 12, 24], [0, 12, 12], [0, 12, 0], [0, 0, 0]])


if __name__ == "__main__":
    unittest.main()
