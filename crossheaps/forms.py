"""The forms of the rows of scripts.

A value in a statement is None, an integer, or the name of a variable (a string).
"""

SMALL = "abcdefghijklmnopqrstuvwxyz"
LARGE = "ABCDEFGHIJKLMNOPQRSTUVWXYZ"
DIGITS = "0123456789"
HOMES = ("counted", "traced")
MOST_VALUE = 1000000000
MOST_NUMBER = 10000
MOST_SLOT = 5
MOST_SLOTS = 6
MOST_PARAMETERS = 4
MOST_LETTERS = 8
TAKEN = (
    "none", "get", "at", "is", "then", "record", "weak", "map", "counted", "traced",
    "let", "drop", "hold", "release", "pin", "unpin", "say", "if", "else", "end",
    "repeat", "proc", "do", "minor", "rings", "begin", "slice", "compact", "finalize", "settle",
)


def is_name(word):
    if not 1 <= len(word) <= MOST_LETTERS or word in TAKEN:
        return False
    if word[0] not in SMALL and word[0] not in LARGE:
        return False
    return all([letter in SMALL for letter in word[1:]])


def is_global(name):
    return name[0] in LARGE


def is_local(word):
    return is_name(word) and not is_global(word)


def number_of(word, most):
    """The number from 0 to most that the word is, None if it is none."""
    # The length comes first: the language refuses to read very long numbers.
    if not 1 <= len(word) <= len(str(most)):
        return None
    if any([sign not in DIGITS for sign in word]):
        return None
    if word[0] == "0" and word != "0":
        return None
    return int(word) if int(word) <= most else None


def is_whole(word):
    if word[:1] == "-":
        return word != "-0" and number_of(word[1:], MOST_VALUE) is not None
    return number_of(word, MOST_VALUE) is not None


def is_value(word):
    return word == "none" or is_name(word) or is_whole(word)


def value_of(word):
    if word == "none":
        return None
    return word if is_name(word) else int(word)


def slot_of(word):
    """The pair (name, slot) of a word such as y.0, None for another word."""
    parts = word.split(".")
    if len(parts) != 2 or not is_name(parts[0]):
        return None
    slot = number_of(parts[1], MOST_SLOT)
    return None if slot is None else (parts[0], slot)


def told_source(words):
    """What stands behind `say`, and may stand behind `let X =`."""
    if len(words) == 1:
        place = slot_of(words[0])
        if place is not None:
            return ("slot", place[0], place[1])
        return ("value", value_of(words[0])) if is_value(words[0]) else None
    if len(words) == 2 and words[0] == "get" and is_name(words[1]):
        return ("get", words[1])
    if len(words) == 3 and words[1] == "at" and is_name(words[0]) and is_name(words[2]):
        return ("at", words[0], words[2])
    return None


def record_source(words):
    if len(words) not in (3, 5) or words[1] not in HOMES:
        return None
    many = number_of(words[2], MOST_SLOTS)
    if many is None:
        return None
    if len(words) == 3:
        return ("record", words[1], many, None)
    if words[3] == "then" and is_local(words[4]):
        return ("record", words[1], many, words[4])
    return None


def made_source(words):
    """A new object behind `let X =`."""
    if words[0] == "record":
        return record_source(words)
    if words[0] == "weak" and len(words) == 3 and words[1] in HOMES and is_name(words[2]):
        return ("weak", words[1], words[2])
    if words[0] == "map" and len(words) == 2 and words[1] in HOMES:
        return ("map", words[1])
    return None


def let_form(words):
    if len(words) < 4 or not is_name(words[1]) or words[2] != "=":
        return None
    source = told_source(words[3:])
    if source is None:
        source = made_source(words[3:])
    return None if source is None else ("let", words[1], source)


def say_form(words):
    source = told_source(words[1:])
    return None if source is None else ("say", source)


def name_form(words):
    return (words[0], words[1]) if len(words) == 2 and is_name(words[1]) else None


def number_form(words):
    if len(words) != 2:
        return None
    number = number_of(words[1], MOST_NUMBER)
    return None if number is None else (words[0], number)


def bare_form(words):
    return (words[0],) if len(words) == 1 else None


def if_form(words):
    if len(words) != 4 or words[2] != "is" or not is_value(words[1]) or not is_value(words[3]):
        return None
    return ("if", value_of(words[1]), value_of(words[3]))


def proc_form(words):
    if not 2 <= len(words) <= 2 + MOST_PARAMETERS:
        return None
    if not all([is_local(word) for word in words[1:]]):
        return None
    names = words[2:]
    if any([names.count(name) > 1 for name in names]):
        return None
    return ("proc", words[1], tuple(names))


def do_form(words):
    if len(words) < 2 or not is_local(words[1]):
        return None
    if not all([is_value(word) for word in words[2:]]):
        return None
    return ("do", words[1], tuple([value_of(word) for word in words[2:]]))


def store_form(words):
    """A row that begins with no word of its own: `Y.I = V` or `Y at Z = V`."""
    if len(words) == 3 and words[1] == "=" and is_value(words[2]):
        place = slot_of(words[0])
        return None if place is None else ("store", place[0], place[1], value_of(words[2]))
    if len(words) != 5 or words[1] != "at" or words[3] != "=":
        return None
    if not is_name(words[0]) or not is_name(words[2]) or not is_value(words[4]):
        return None
    return ("enter", words[0], words[2], value_of(words[4]))


FORMS = {
    "let": let_form,
    "say": say_form,
    "drop": name_form,
    "hold": name_form,
    "release": name_form,
    "pin": name_form,
    "unpin": name_form,
    "if": if_form,
    "else": bare_form,
    "end": bare_form,
    "repeat": number_form,
    "proc": proc_form,
    "do": do_form,
    "minor": bare_form,
    "rings": number_form,
    "begin": bare_form,
    "slice": number_form,
    "compact": number_form,
    "finalize": bare_form,
    "settle": bare_form,
}


def statement_of(words):
    """The statement that a list of words is, None if it has no form."""
    if words[0] not in FORMS:
        return store_form(words)
    form = FORMS[words[0]]
    return form(words)
