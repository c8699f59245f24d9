"""The journal: bytes as they come, read as records, and the books that these make."""

from tonnebook.books import Books, Record
from tonnebook.codes import WRONG_SUM
from tonnebook.commands import do_payload

BLANK = 32
SHARP = 35
LINE_END = 10
ZERO = 48
NINE = 57

LENGTH_DIGITS = 6
SUM_DIGITS = 5
BEFORE_PAYLOAD = 7
BEHIND_PAYLOAD = 7
LONGEST_PAYLOAD = 200
SUM_MODULUS = 65521

# These stand where else a length or an end would, and those are above 0.
PENDING = 0
BROKEN = -1


def sum_of(payload):
    """The sum of a payload: each byte times its place."""
    return sum([place * byte for place, byte in enumerate(payload, start=1)]) % SUM_MODULUS


def digits_of(number, count):
    """The bytes of a number in so many digits."""
    return [ord(digit) for digit in str(number).zfill(count)]


def written(payload):
    """A payload as the bytes of a record."""
    front = digits_of(len(payload), LENGTH_DIGITS) + [BLANK]
    behind = [SHARP] + digits_of(sum_of(payload), SUM_DIGITS) + [LINE_END]
    return front + payload + behind


def may_be_digits(row):
    return all([ZERO <= byte <= NINE for byte in row])


def number_of(digits):
    number = 0
    for byte in digits:
        number = number * 10 + byte - ZERO
    return number


def may_be(taken, at, byte):
    """Whether a byte stands at a place, or nothing does yet."""
    return at >= len(taken) or taken[at] == byte


def length_at(taken, begin):
    """The length that a record from begin on tells, or PENDING or BROKEN."""
    digits = taken[begin:begin + LENGTH_DIGITS]
    if not may_be_digits(digits):
        return BROKEN
    if len(digits) < LENGTH_DIGITS:
        return PENDING
    length = number_of(digits)
    return length if 1 <= length <= LONGEST_PAYLOAD else BROKEN


def record_end(taken, begin):
    """Where the record from begin on ends, or PENDING or BROKEN."""
    length = length_at(taken, begin)
    if length == PENDING or length == BROKEN:
        return length
    sharp = begin + BEFORE_PAYLOAD + length
    end = sharp + BEHIND_PAYLOAD
    if not may_be(taken, begin + LENGTH_DIGITS, BLANK) or not may_be(taken, sharp, SHARP):
        return BROKEN
    if not may_be_digits(taken[sharp + 1:sharp + 1 + SUM_DIGITS]) or not may_be(taken, end - 1, LINE_END):
        return BROKEN
    return end if end <= len(taken) else PENDING


class Journal:
    """All bytes taken, how many of them are whole records, and the books behind those."""

    def __init__(self):
        self.taken = []
        self.settled = 0
        self.broken = False
        self.books = Books()

    def take(self, row):
        """Takes bytes and does the records that become whole; the code of each."""
        self.taken.extend(row)
        codes = []
        end = record_end(self.taken, self.settled)
        while end > 0:
            codes.append(self.do_record(end))
            end = record_end(self.taken, self.settled)
        self.broken = end == BROKEN
        return codes

    def do_record(self, end):
        """Does the record that ends there, the first that isn't done yet; its code."""
        sharp = end - BEHIND_PAYLOAD
        payload = self.taken[self.settled + BEFORE_PAYLOAD:sharp]
        told_sum = number_of(self.taken[sharp + 1:sharp + 1 + SUM_DIGITS])
        record = Record(end, self.books.month)
        if told_sum == sum_of(payload):
            record.code = do_payload(self.books, record, payload)
        else:
            record.code = WRONG_SUM
        # Only now: a record that takes back its own number finds no such record yet.
        self.books.records.append(record)
        self.settled = end
        return record.code


def journal_of(row):
    """A new journal of these bytes alone."""
    journal = Journal()
    journal.take(row)
    return journal
