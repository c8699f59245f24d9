"""What the books hold: users, metals, places, a month, a scale, records."""

from tonnebook.codes import DONE

KINDS = ("ground", "pile", "plant", "waste", "sold")


class Place:
    """A place; its amounts are its kilograms, then its micrograms of each metal."""

    def __init__(self, number, kind, metals):
        self.number = number
        self.kind = kind
        self.opened = False
        self.amounts = [0] * (1 + metals)

    def gain(self, amounts):
        self.amounts = [held + more for held, more in zip(self.amounts, amounts)]

    def lose(self, amounts):
        self.amounts = [held - less for held, less in zip(self.amounts, amounts)]

    def has_less(self, amounts):
        return any([held < wanted for held, wanted in zip(self.amounts, amounts)])

    def row(self):
        return [KINDS.index(self.kind) + 1] + self.amounts


class Move:
    """What went from one place to another."""

    def __init__(self, source, target, amounts):
        self.source = source
        self.target = target
        self.amounts = amounts

    def place_numbers(self):
        return [self.source.number, self.target.number]


class Record:
    """A whole record: where it ends in the journal, and what came of it."""

    def __init__(self, end, month):
        self.end = end
        self.month = month
        self.user = ""
        self.code = DONE
        self.taken_back = False
        self.move = None


class Books:
    """Users by name with their ranks, places by name, both in the order told."""

    def __init__(self):
        self.users = {}
        self.metals = []
        self.places = {}
        self.month = 1
        self.scale = []
        self.records = []

    def place_rows(self):
        """How many places there are, then each one's row."""
        rows = [len(self.places)]
        for place in self.places.values():
            rows.extend(place.row())
        return rows
