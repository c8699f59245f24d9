"""The commands: each does its work in the books, or tells by its code why not."""

from tonnebook.books import Move, Place
from tonnebook.codes import (
    DONE, LOW_RANK, NOT_NOW, NO_PLACE, NO_ROOM, NO_USER, OUT_OF_LIMITS, OWN_RECORD,
    TOLD_ALREADY, TOO_LITTLE, WRONG_FORM, WRONG_KIND,
)
from tonnebook.forms import is_of_form
from tonnebook.words import NOBODY, is_numeral, words_of

MOST_USERS = 8
MOST_METALS = 2
MOST_PLACES = 12
TOP_RANK = 3
MOST_KILOGRAMS = 1000000000000
MOST_MICROGRAMS = 1000000000000000000
MOST_SCALE_NUMERALS = 12
MOST_CENTS = 1000000000

OPENED_KINDS = ("ground", "pile")
MOVE_SOURCES = ("ground", "pile")
MOVE_TARGETS = ("pile", "plant", "waste")
SHIP_SOURCES = ("plant",)
SHIP_TARGETS = ("waste", "sold")

# Commands that are not named here ask for no rank.
RANKS = {"user": 3, "metal": 2, "place": 2, "open": 2, "back": 2, "close": 3, "scale": 3}


def above_limits(amounts):
    """Whether kilograms, or micrograms of a metal behind them, are more than may be told."""
    return amounts[0] > MOST_KILOGRAMS or any([part > MOST_MICROGRAMS for part in amounts[1:]])


def carry(record, source, target, amounts):
    """Moves amounts between two places, as a record's own move."""
    if source.has_less(amounts):
        return TOO_LITTLE
    source.lose(amounts)
    target.gain(amounts)
    record.move = Move(source, target, amounts)
    return DONE


def do_user(books, record, arguments):
    name = arguments[0]
    rank = arguments[1]
    if name in books.users:
        return TOLD_ALREADY
    if len(books.users) >= MOST_USERS:
        return NO_ROOM
    if not 1 <= rank <= TOP_RANK:
        return OUT_OF_LIMITS
    books.users[name] = rank
    return DONE


def do_metal(books, record, arguments):
    name = arguments[0]
    if name in books.metals:
        return TOLD_ALREADY
    if len(books.places) > 0:
        return NOT_NOW
    if len(books.metals) >= MOST_METALS:
        return NO_ROOM
    books.metals.append(name)
    return DONE


def do_place(books, record, arguments):
    name = arguments[0]
    if name in books.places:
        return TOLD_ALREADY
    if len(books.places) >= MOST_PLACES:
        return NO_ROOM
    books.places[name] = Place(len(books.places) + 1, arguments[1], len(books.metals))
    return DONE


def do_opening(books, record, arguments):
    amounts = arguments[1:]
    place = books.places.get(arguments[0])
    if place is None:
        return NO_PLACE
    if place.opened:
        return TOLD_ALREADY
    if place.kind not in OPENED_KINDS:
        return WRONG_KIND
    if above_limits(amounts):
        return OUT_OF_LIMITS
    place.opened = True
    place.gain(amounts)
    return DONE


def do_move(books, record, arguments):
    source = books.places.get(arguments[0])
    target = books.places.get(arguments[1])
    kilograms = arguments[2]
    if source is None or target is None:
        return NO_PLACE
    if source.number == target.number:
        return WRONG_KIND
    if source.kind not in MOVE_SOURCES or target.kind not in MOVE_TARGETS:
        return WRONG_KIND
    if not 1 <= kilograms <= MOST_KILOGRAMS:
        return OUT_OF_LIMITS
    held = source.amounts[0]
    if held < kilograms:
        return TOO_LITTLE
    shares = [part * kilograms // held for part in source.amounts[1:]]
    return carry(record, source, target, [kilograms] + shares)


def do_ship(books, record, arguments):
    source = books.places.get(arguments[0])
    target = books.places.get(arguments[1])
    amounts = arguments[2:]
    if source is None or target is None:
        return NO_PLACE
    if source.kind not in SHIP_SOURCES or target.kind not in SHIP_TARGETS:
        return WRONG_KIND
    if amounts[0] < 1 or above_limits(amounts):
        return OUT_OF_LIMITS
    return carry(record, source, target, amounts)


def do_back(books, record, arguments):
    number = arguments[0]
    if not 1 <= number <= len(books.records):
        return NOT_NOW
    earlier = books.records[number - 1]
    if earlier.move is None or earlier.taken_back:
        return NOT_NOW
    if earlier.user == record.user:
        return OWN_RECORD
    code = carry(record, earlier.move.target, earlier.move.source, earlier.move.amounts)
    if code == DONE:
        earlier.taken_back = True
    return code


def do_close(books, record, arguments):
    books.month += 1
    return DONE


def do_scale(books, record, arguments):
    starts = arguments[0::2]
    cents = arguments[1::2]
    if len(arguments) > MOST_SCALE_NUMERALS or starts[0] != 0:
        return OUT_OF_LIMITS
    # Equal starts do not rise either: each may stand once.
    if starts != sorted(set(starts)):
        return OUT_OF_LIMITS
    if max(starts) > MOST_KILOGRAMS or max(cents) > MOST_CENTS:
        return OUT_OF_LIMITS
    books.scale = arguments
    return DONE


def do_note(books, record, arguments):
    return DONE


COMMANDS = {
    "user": do_user,
    "metal": do_metal,
    "place": do_place,
    "open": do_opening,
    "move": do_move,
    "ship": do_ship,
    "back": do_back,
    "close": do_close,
    "scale": do_scale,
    "note": do_note,
}


def may_speak(books, words):
    """Whether the first word is one who may tell the rest."""
    if words[0] == NOBODY:
        return len(books.users) == 0 and words[1:2] == ["user"]
    return words[0] in books.users


def do_payload(books, record, payload):
    """Does what a payload tells, in the name of the record that it came with; its code."""
    words = words_of(payload)
    if words == []:
        return WRONG_FORM
    if not may_speak(books, words):
        return NO_USER
    record.user = words[0]
    if len(words) < 2 or not is_of_form(words[1], words[2:], len(books.metals)):
        return WRONG_FORM
    # Nobody is no user, so no rank of theirs can be less than told.
    rank = books.users.get(words[0], TOP_RANK)
    if rank < RANKS.get(words[1], 1):
        return LOW_RANK
    arguments = [int(word) if is_numeral(word) else word for word in words[2:]]
    act = COMMANDS[words[1]]
    return act(books, record, arguments)
