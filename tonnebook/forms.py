"""Which words may stand behind each command."""

from tonnebook.books import KINDS
from tonnebook.words import is_name, is_numeral

FORMS = {
    "user": ("name", "numeral"),
    "metal": ("name",),
    "place": ("name", "kind"),
    "open": ("name", "numeral", "each metal"),
    "move": ("name", "name", "numeral"),
    "ship": ("name", "name", "numeral", "each metal"),
    "back": ("numeral",),
    "close": (),
    "scale": ("pairs",),
    "note": ("anything",),
}


def wanted_parts(form, given, metals):
    """What a form wants of each word, where so many words are given and there are so many metals."""
    parts = []
    for part in form:
        if part == "each metal":
            parts.extend(["numeral"] * metals)
        elif part == "pairs":
            parts.extend(["numeral"] * max(2, given + given % 2))
        elif part == "anything":
            parts.extend(["anything"] * given)
        else:
            parts.append(part)
    return parts


def fits(word, part):
    """Whether a word is what a part of a form wants."""
    if part == "name":
        return is_name(word)
    if part == "kind":
        return word in KINDS
    if part == "numeral":
        return is_numeral(word)
    return True


def is_of_form(command, words, metals):
    """Whether there is such a command, and these words may stand behind it."""
    if command not in FORMS:
        return False
    parts = wanted_parts(FORMS[command], len(words), metals)
    if len(parts) != len(words):
        return False
    return all([fits(word, part) for word, part in zip(words, parts)])
