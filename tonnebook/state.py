"""All that a journal and its books hold, in plain lists that can be compared."""


def place_state(name, place):
    return [name, place.number, place.kind, place.opened, place.amounts]


def move_state(move):
    # Two books have places of their own each, so these are told by their numbers.
    return [] if move is None else [move.source.number, move.target.number, move.amounts]


def record_state(record):
    return [record.end, record.month, record.user, record.code, record.taken_back, move_state(record.move)]


def books_state(books):
    users = list(books.users.items())
    places = [place_state(name, place) for name, place in books.places.items()]
    records = [record_state(record) for record in books.records]
    return [users, books.metals, places, books.month, books.scale, records]


def state_of(journal):
    return [journal.taken, journal.settled, journal.broken, books_state(journal.books)]
