"""Calls on one new journal, and their answers."""

from tonnebook.books import KINDS
from tonnebook.journal import LONGEST_PAYLOAD, Journal, journal_of, sum_of, written
from tonnebook.reckoning import net_into, royalty_on
from tonnebook.state import state_of
from tonnebook.words import text_of

OUT_OF_RANGE = -1
IS_BROKEN = -2
TOO_LONG = -3
TOO_SHORT = -4
NO_SUCH_RECORD = -5
NO_SUCH_PLACE = -6
NOT_YET = -7

MOST_BYTES = 6000
MOST_BYTES_SHOWN = 1000
MOST_RECORDS = 1000
LAST_MONTH = 1000
HIGHEST_BYTE = 255


class Desk:
    """Holds the journal, so that a cut can put another in its place."""

    def __init__(self):
        self.journal = Journal()


def is_row_of_bytes(row):
    return all([0 <= number <= HIGHEST_BYTE for number in row])


def truth(is_so):
    """1 or 0, as answers tell it."""
    return 1 if is_so else 0


def answer_feed(desk, row):
    journal = desk.journal
    if not is_row_of_bytes(row):
        return [OUT_OF_RANGE]
    if journal.broken:
        return [IS_BROKEN]
    if len(journal.taken) + len(row) > MOST_BYTES:
        return [TOO_LONG]
    codes = journal.take(row)
    return [0, truth(journal.broken), len(codes)] + codes


def answer_cut(desk, arguments):
    count = arguments[0]
    if not 0 <= count <= MOST_BYTES:
        return [OUT_OF_RANGE]
    if len(desk.journal.taken) < count:
        return [TOO_SHORT]
    desk.journal = journal_of(desk.journal.taken[:count])
    return [0, len(desk.journal.books.records), truth(desk.journal.broken)]


def answer_status(desk, arguments):
    journal = desk.journal
    taken = len(journal.taken)
    pending = taken - journal.settled
    return [0, taken, pending, truth(journal.broken), len(journal.books.records), journal.books.month]


def answer_bytes(desk, arguments):
    skipped = arguments[0]
    count = arguments[1]
    if not 0 <= skipped <= MOST_BYTES or not 0 <= count <= MOST_BYTES_SHOWN:
        return [OUT_OF_RANGE]
    return [0] + desk.journal.taken[skipped:skipped + count]


def answer_record(desk, arguments):
    number = arguments[0]
    records = desk.journal.books.records
    if not 1 <= number <= MOST_RECORDS:
        return [OUT_OF_RANGE]
    if len(records) < number:
        return [NO_SUCH_RECORD]
    record = records[number - 1]
    answer = [0, record.code, record.month, truth(record.taken_back), record.end]
    if record.move is None:
        return answer
    return answer + [record.move.source.number, record.move.target.number] + record.move.amounts


def answer_balance(desk, arguments):
    return [0] + desk.journal.books.place_rows()


def place_named(desk, row):
    """The place of which these bytes are the name, or None."""
    return desk.journal.books.places.get(text_of(row))


def answer_place(desk, row):
    if not is_row_of_bytes(row):
        return [OUT_OF_RANGE]
    place = place_named(desk, row)
    if place is None:
        return [NO_SUCH_PLACE]
    return [0, place.number] + place.row()


def answer_asof(desk, arguments):
    count = arguments[0]
    journal = desk.journal
    if not 0 <= count <= MOST_RECORDS:
        return [OUT_OF_RANGE]
    if len(journal.books.records) < count:
        return [NO_SUCH_RECORD]
    end = 0 if count == 0 else journal.books.records[count - 1].end
    books = journal_of(journal.taken[:end]).books
    return [0, books.month] + books.place_rows()


def month_refusal(desk, month):
    """Why a month can't be told of, as an answer, or None."""
    if not 1 <= month <= LAST_MONTH:
        return [OUT_OF_RANGE]
    if desk.journal.books.month < month:
        return [NOT_YET]
    return None


def answer_month(desk, arguments):
    month = arguments[0]
    refusal = month_refusal(desk, month)
    if refusal is not None:
        return refusal
    answer = [0]
    for kind in KINDS:
        answer.extend(net_into(desk.journal.books, month, kind))
    return answer


def answer_royalty(desk, arguments):
    month = arguments[0]
    refusal = month_refusal(desk, month)
    if refusal is not None:
        return refusal
    books = desk.journal.books
    kilograms = net_into(books, month, "sold")[0]
    return [0, kilograms, royalty_on(kilograms, books.scale)]


def answer_users(desk, arguments):
    users = desk.journal.books.users
    answer = [0, len(users)]
    for name, rank in users.items():
        answer.extend([rank, len(name)])
        answer.extend([ord(sign) for sign in name])
    return answer


def answer_sum(desk, row):
    if not is_row_of_bytes(row):
        return [OUT_OF_RANGE]
    return [0, sum_of(row)]


def answer_write(desk, row):
    if not is_row_of_bytes(row) or not 1 <= len(row) <= LONGEST_PAYLOAD:
        return [OUT_OF_RANGE]
    return [0] + written(row)


def answer_standing(desk, arguments):
    """The call open: the records whose moves still stand."""
    answer = [0]
    for number, record in enumerate(desk.journal.books.records, start=1):
        if record.move is not None and not record.taken_back:
            answer.append(number)
    return answer


def answer_trail(desk, row):
    if not is_row_of_bytes(row):
        return [OUT_OF_RANGE]
    place = place_named(desk, row)
    if place is None:
        return [NO_SUCH_PLACE]
    answer = [0]
    for number, record in enumerate(desk.journal.books.records, start=1):
        if record.move is not None and place.number in record.move.place_numbers():
            is_target = record.move.target.number == place.number
            answer.extend([number, truth(is_target), record.move.amounts[0]])
    return answer


def answer_check(desk, arguments):
    fresh = journal_of(desk.journal.taken)
    return [0, truth(state_of(desk.journal) == state_of(fresh))]


# By a call's number: what answers it, and how many plain arguments it has; those in ROWED have a row instead.
ANSWERERS = (
    answer_feed, answer_cut, answer_status, answer_bytes,
    answer_record, answer_balance, answer_place, answer_asof,
    answer_month, answer_royalty, answer_users, answer_sum,
    answer_write, answer_standing, answer_trail, answer_check,
)
PLAIN_ARGUMENTS = (0, 1, 0, 2, 1, 0, 0, 1, 1, 1, 0, 0, 0, 0, 0, 0)
ROWED = (0, 6, 11, 12, 14)


def answers(calls):
    """The answers to calls on a new journal, each with its count ahead of it."""
    desk = Desk()
    told = []
    at = 0
    while at < len(calls):
        number = calls[at]
        count = PLAIN_ARGUMENTS[number]
        at += 1
        if number in ROWED:
            count = calls[at]
            at += 1
        answerer = ANSWERERS[number]
        answer = answerer(desk, calls[at:at + count])
        at += count
        told.append(len(answer))
        told.extend(answer)
    return told
