"""Calls on one new journal, and their answers."""

from tonnebook.journal import Journal, journal_of
from tonnebook.words import text_of

OUT_OF_RANGE = -1
IS_BROKEN = -2
TOO_LONG = -3
TOO_SHORT = -4
NO_SUCH_RECORD = -5
NO_SUCH_PLACE = -6

MOST_BYTES = 6000
MOST_BYTES_SHOWN = 1000
MOST_RECORDS = 1000
HIGHEST_BYTE = 255


class Desk:
    """Holds the journal, so that a cut can put another in its place."""

    def __init__(self):
        self.journal = Journal()


def is_row_of_bytes(row):
    return all([0 <= number <= HIGHEST_BYTE for number in row])


def truth(is_so):
    """1 or 0, as answers tell it."""
    return 1 if is_so else 0


def answer_feed(desk, row):
    journal = desk.journal
    if not is_row_of_bytes(row):
        return [OUT_OF_RANGE]
    if journal.broken:
        return [IS_BROKEN]
    if len(journal.taken) + len(row) > MOST_BYTES:
        return [TOO_LONG]
    codes = journal.take(row)
    return [0, truth(journal.broken), len(codes)] + codes


def answer_cut(desk, arguments):
    count = arguments[0]
    if not 0 <= count <= MOST_BYTES:
        return [OUT_OF_RANGE]
    if len(desk.journal.taken) < count:
        return [TOO_SHORT]
    desk.journal = journal_of(desk.journal.taken[:count])
    return [0, len(desk.journal.books.records), truth(desk.journal.broken)]


def answer_status(desk, arguments):
    journal = desk.journal
    taken = len(journal.taken)
    pending = taken - journal.settled
    return [0, taken, pending, truth(journal.broken), len(journal.books.records), journal.books.month]


def answer_bytes(desk, arguments):
    skipped = arguments[0]
    count = arguments[1]
    if not 0 <= skipped <= MOST_BYTES or not 0 <= count <= MOST_BYTES_SHOWN:
        return [OUT_OF_RANGE]
    return [0] + desk.journal.taken[skipped:skipped + count]


def answer_record(desk, arguments):
    number = arguments[0]
    records = desk.journal.books.records
    if not 1 <= number <= MOST_RECORDS:
        return [OUT_OF_RANGE]
    if len(records) < number:
        return [NO_SUCH_RECORD]
    record = records[number - 1]
    answer = [0, record.code, record.month, truth(record.taken_back), record.end]
    if record.move is None:
        return answer
    return answer + [record.move.source.number, record.move.target.number] + record.move.amounts


def answer_balance(desk, arguments):
    return [0] + desk.journal.books.place_rows()


def answer_place(desk, row):
    if not is_row_of_bytes(row):
        return [OUT_OF_RANGE]
    place = desk.journal.books.places.get(text_of(row))
    if place is None:
        return [NO_SUCH_PLACE]
    return [0, place.number] + place.row()


def answer_asof(desk, arguments):
    count = arguments[0]
    journal = desk.journal
    if not 0 <= count <= MOST_RECORDS:
        return [OUT_OF_RANGE]
    if len(journal.books.records) < count:
        return [NO_SUCH_RECORD]
    end = 0 if count == 0 else journal.books.records[count - 1].end
    books = journal_of(journal.taken[:end]).books
    return [0, books.month] + books.place_rows()


# By a call's number: what answers it, and how many plain arguments it has; those in ROWED have a row instead.
ANSWERERS = (
    answer_feed, answer_cut, answer_status, answer_bytes,
    answer_record, answer_balance, answer_place, answer_asof,
)
PLAIN_ARGUMENTS = (0, 1, 0, 2, 1, 0, 0, 1)
ROWED = (0, 6)


def answers(calls):
    """The answers to calls on a new journal, each with its count ahead of it."""
    desk = Desk()
    told = []
    at = 0
    while at < len(calls):
        number = calls[at]
        count = PLAIN_ARGUMENTS[number]
        at += 1
        if number in ROWED:
            count = calls[at]
            at += 1
        answerer = ANSWERERS[number]
        answer = answerer(desk, calls[at:at + count])
        at += count
        told.append(len(answer))
        told.extend(answer)
    return told
