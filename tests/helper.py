"""What the tests share: records as bytes, calls as numbers, answers one by one."""

from tonnebook.desk import answers

STATUS = [2]
BALANCE = [5]
ASK_USERS = [10]
ASK_STANDING = [13]
CHECK = [15]

# The numbers that are farthest out of every range.
FAR = (-10 ** 18, 10 ** 18)

# A user of each rank: boss 3, clerk 2, hand 1; and second, another of rank 2.
USERS = ["- user boss 3", "boss user clerk 2", "boss user hand 1", "boss user second 2"]
# One place of each kind and a second pile, numbered 1 to 6.
PLACES = [
    "boss place pit ground", "boss place heap pile", "boss place mill plant",
    "boss place dump waste", "boss place buyer sold", "boss place stock pile",
]


def codes_of(text):
    return list(text.encode("latin-1")) if isinstance(text, str) else list(text)


def payload_sum(payload):
    total = 0
    for place in range(len(payload)):
        total += (place + 1) * payload[place]
    return total % 65521


def record(payload, told_sum=None):
    """The bytes of a record; told_sum stands in the place of the right one."""
    numbers = codes_of(payload)
    total = payload_sum(numbers) if told_sum is None else told_sum
    return codes_of("%06d " % len(numbers)) + numbers + codes_of("#%05d\n" % total)


def journal(payloads):
    return [byte for payload in payloads for byte in record(payload)]


def ask_with_row(number, row):
    numbers = codes_of(row)
    return [number, len(numbers)] + numbers


def feed(row):
    return ask_with_row(0, row)


def feeds(row, most=3000):
    """As many calls of feed as a long row needs."""
    return [feed(row[at:at + most]) for at in range(0, len(row), most)]


def cut(count):
    return [1, count]


def show(skipped, count):
    return [3, skipped, count]


def ask_record(number):
    return [4, number]


def ask_place(name):
    return ask_with_row(6, name)


def asof(count):
    return [7, count]


def ask_month(month):
    return [8, month]


def ask_royalty(month):
    return [9, month]


def ask_sum(row):
    return ask_with_row(11, row)


def ask_written(row):
    return ask_with_row(12, row)


def ask_trail(name):
    return ask_with_row(14, name)


def parted(told):
    """The answers one by one, without their counts."""
    found = []
    at = 0
    while at < len(told):
        found.append(told[at + 1:at + 1 + told[at]])
        at += 1 + told[at]
    return found


def run(*calls):
    """The answers to these calls on a new object."""
    return parted(answers([number for call in calls for number in call]))


def after(payloads, *calls):
    """The answers to these calls behind a feed of these payloads as records."""
    fed = feeds(journal(payloads))
    return run(*fed, *calls)[len(fed):]


def codes(payloads):
    """The code of each of these payloads, fed as records one behind another."""
    found = []
    for answer in run(*feeds(journal(payloads))):
        found.extend(answer[3:])
    return found


def last_code(*payloads):
    return codes(payloads)[-1]
