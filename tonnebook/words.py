"""The words of a payload, and whether they are names or numerals."""

LETTERS = "abcdefghijklmnopqrstuvwxyz"
DIGITS = "0123456789"
BLANK = " "
NOBODY = "-"
# No name, numeral or command has this sign, so a word with it is never taken for one of them.
STRANGE = "?"

NAME_LENGTH = 8
NUMERAL_LENGTH = 19


def text_of(row):
    """Bytes as a text in which every byte that no word needs is the strange sign."""
    signs = dict([(ord(sign), sign) for sign in LETTERS + DIGITS + BLANK + NOBODY])
    return "".join([signs.get(byte, STRANGE) for byte in row])


def words_of(payload):
    """The words of a payload, as texts."""
    return [word for word in text_of(payload).split(BLANK) if word != ""]


def is_name(word):
    """Whether a word is a letter, then letters and digits, and not too long."""
    if word == "" or len(word) > NAME_LENGTH or word[0] not in LETTERS:
        return False
    return all([sign in LETTERS + DIGITS for sign in word])


def is_numeral(word):
    """Whether a word is digits, not too many, without a zero in front."""
    if word == "" or len(word) > NUMERAL_LENGTH:
        return False
    if not all([sign in DIGITS for sign in word]):
        return False
    return word == "0" or word[0] != "0"
