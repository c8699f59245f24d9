"""Month, royalty, open, trail and users over long stories, reckoned once more from what each record tells of itself."""

import random
import unittest

from helper import (
    ASK_STANDING, ASK_USERS, BALANCE, CHECK, PLACES, STATUS, USERS, ask_month, ask_record, ask_royalty, ask_trail,
    codes_of, feeds, journal, run,
)

NAMES = ["pit", "heap", "mill", "dump", "buyer", "stock"]
KINDS = [1, 2, 3, 4, 5, 2]


def amounts_by(chance, metals):
    return " ".join(str(chance.choice([0, 1, 2, 5, 20, 300])) for part in range(1 + metals))


def scale_by(chance):
    starts = [0] + sorted(chance.sample(range(1, 60), chance.randrange(6)))
    return " ".join("%d %d" % (start, chance.choice([0, 1, 999, 1500, 10 ** 9])) for start in starts)


def story(chance, metals):
    """Payloads, most of which are done."""
    told = USERS + ["boss metal gold", "boss metal iron"][:metals] + PLACES
    told += ["boss open %s 5000%s" % (name, " 70001" * metals) for name in ("pit", "heap", "stock")]
    while len(told) < 120:
        number = chance.randrange(len(told)) + 1
        told.append(chance.choice(["boss", "clerk", "second", "hand"]) + " " + chance.choice([
            "move pit mill %d" % chance.randrange(90), "move heap stock %d" % chance.randrange(90),
            "move stock %s %d" % (chance.choice(NAMES), chance.randrange(90)),
            "ship mill buyer " + amounts_by(chance, metals), "ship mill buyer " + amounts_by(chance, metals),
            "ship mill dump " + amounts_by(chance, metals), "back %d" % number, "back %d" % number,
            "close", "scale " + scale_by(chance), "note x",
        ]))
    return told


def royalty(kilograms, steps):
    """Kilogram by kilogram from where each step begins to where the next one does."""
    total = 0
    for at in range(len(steps)):
        start, cents = steps[at]
        end = steps[at + 1][0] if at + 1 < len(steps) else kilograms
        total += len(range(start, min(end, kilograms))) * cents
    return total // 1000


class Stories(unittest.TestCase):
    def setUp(self):
        self.chance = random.Random(4)

    def stories(self):
        for turn in range(45):
            metals = turn % 3
            told = story(self.chance, metals)
            fed = feeds(journal(told))
            calls = [ask_record(number) for number in range(1, len(told) + 1)]
            found = run(*fed, STATUS, *calls)[len(fed):]
            yield metals, told, fed, found[0][5], found[1:]

    def ask(self, fed, *calls):
        return run(*fed, *calls)[len(fed):]

    def test_months(self):
        below = 0
        for metals, told, fed, months, records in self.stories():
            for month in range(1, months + 1):
                net = [[0] * (1 + metals) for kind in range(6)]
                for found in records:
                    if found[2] == month and len(found) > 5:
                        for part in range(1 + metals):
                            net[KINDS[found[6] - 1]][part] += found[7 + part]
                            net[KINDS[found[5] - 1]][part] -= found[7 + part]
                wanted = [0] + [number for kind in net[1:] for number in kind]
                below += 1 if net[5][0] < 0 else 0
                self.assertEqual(self.ask(fed, ask_month(month)), [wanted])
            self.assertEqual(self.ask(fed, ask_month(months + 1)), [[-7]])
        self.assertGreater(below, 0)

    def test_royalties(self):
        for metals, told, fed, months, records in self.stories():
            steps = []
            for payload, found in zip(told, records):
                words = payload.split()
                if words[1] == "scale" and found[1] == 0:
                    numbers = [int(word) for word in words[2:]]
                    steps = list(zip(numbers[0::2], numbers[1::2]))
            for month in range(1, months + 1):
                moved = [found for found in records if found[2] == month and len(found) > 5]
                kilograms = sum(found[7] for found in moved if found[6] == 5)
                kilograms -= sum(found[7] for found in moved if found[5] == 5)
                self.assertEqual(self.ask(fed, ask_royalty(month)), [[0, kilograms, royalty(kilograms, steps)]])

    def test_what_stands(self):
        for metals, told, fed, months, records in self.stories():
            taken = [int(payload.split()[2]) for payload, found in zip(told, records)
                     if payload.split()[1] == "back" and found[1] == 0]
            wanted = [number for number, found in enumerate(records, start=1) if len(found) > 5 and number not in taken]
            self.assertEqual(self.ask(fed, ASK_STANDING), [[0] + wanted])
            self.assertEqual([number for number, found in enumerate(records, start=1) if found[3] == 1], sorted(taken))

    def test_trails(self):
        for metals, told, fed, months, records in self.stories():
            opened = [5000, 5000, 0, 0, 0, 5000]
            balance = self.ask(fed, BALANCE)[0][2:]
            for place in range(1, 7):
                wanted = [0]
                for number, found in enumerate(records, start=1):
                    if place in found[5:7]:
                        wanted += [number, 1 if found[6] == place else 0, found[7]]
                trail = self.ask(fed, ask_trail(NAMES[place - 1]))[0]
                self.assertEqual(trail, wanted)
                # What a trail tells comes to what the place has.
                gone = sum((2 * way - 1) * part for way, part in zip(trail[2::3], trail[3::3]))
                self.assertEqual(opened[place - 1] + gone, balance[(place - 1) * (2 + metals) + 1])

    def test_users_and_check(self):
        wanted = [0, 4]
        for name, rank in (("boss", 3), ("clerk", 2), ("hand", 1), ("second", 2)):
            wanted += [rank, len(name)] + codes_of(name)
        for metals, told, fed, months, records in self.stories():
            self.assertEqual(self.ask(fed, ASK_USERS, CHECK), [wanted, [0, 1]])

    def test_the_stories_are_worth_it(self):
        moved, backs, months = 0, 0, 0
        for metals, told, fed, last, records in self.stories():
            months += last
            moved += len([found for found in records if len(found) > 5])
            backs += len([found for found in records if len(found) > 5 and found[3] == 1])
        self.assertGreater(moved, 500)
        self.assertGreater(backs, 50)
        self.assertGreater(months, 100)


if __name__ == "__main__":
    unittest.main()
