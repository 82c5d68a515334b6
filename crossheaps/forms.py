"""The forms of the rows of scripts.

A statement is a tuple: what it does, and what it needs for that. A value in a statement is None,
an integer, or the name of a variable (a string).
"""

HOMES = ("counted", "traced")
MOST_VALUE = 1000000000
MOST_NUMBER = 10000
SLOTS = {"0": 0, "1": 1, "2": 2, "3": 3, "4": 4, "5": 5}
SIZES = {"0": 0, "1": 1, "2": 2, "3": 3, "4": 4, "5": 5, "6": 6}
MOST_PARAMETERS = 4
MOST_LETTERS = 8
MOST_DIGITS = 10
TAKEN = {
    "none": True, "get": True, "at": True, "is": True, "then": True, "record": True, "weak": True,
    "map": True, "counted": True, "traced": True, "let": True, "drop": True, "hold": True,
    "release": True, "pin": True, "unpin": True, "say": True, "if": True, "else": True,
    "end": True, "repeat": True, "proc": True, "do": True, "minor": True, "rings": True,
    "begin": True, "slice": True, "compact": True, "finalize": True, "settle": True,
}


def is_name(word):
    if len(word) > MOST_LETTERS or word in TAKEN:
        return False
    # A word of letters is a title if just the first one is a capital.
    return word.isalpha() and word.isascii() and (word.islower() or word.istitle())


def is_local(word):
    return is_name(word) and word.islower()


def whole_of(word, digits):
    """The number from 0 with at most so many digits that the word is, None if it is none."""
    # The length comes first: the language refuses to read very long numbers.
    if len(word) > digits or not word.isdigit() or not word.isascii():
        return None
    return None if word[0] == "0" and word != "0" else int(word)


def number_of(word, most):
    """The number from 0 to most that the word is, None if it is none."""
    number = whole_of(word, MOST_DIGITS)
    return None if number is None or number > most else number


def value_of(word):
    """The value that the word is, False if it is none."""
    if word == "none":
        return None
    if word.isalpha():
        return word if is_name(word) else False
    if word.startswith("-"):
        number = number_of(word[1:], MOST_VALUE)
        return False if number is None or number == 0 else -number
    number = number_of(word, MOST_VALUE)
    return False if number is None else number


def slot_of(word):
    """The pair (name, slot) of a word such as y.0, None for another word."""
    name, _, slot = word.partition(".")
    return (name, SLOTS[slot]) if slot in SLOTS and is_name(name) else None


def word_form(verb, name, word):
    """`let X = ..` or `say ..` of a value or a slot."""
    value = value_of(word)
    if value is not False:
        return (verb + " value", name, value)
    place = slot_of(word)
    return None if place is None else (verb + " slot", name, place[0], place[1])


def asked_form(verb, name, words):
    """`let X = ..` or `say ..` of what a weak object or a map answers."""
    if len(words) == 2 and words[0] == "get" and is_name(words[1]):
        return (verb + " get", name, words[1])
    if len(words) == 3 and words[1] == "at" and is_name(words[0]) and is_name(words[2]):
        return (verb + " at", name, words[0], words[2])
    return None


def record_form(words):
    if len(words) not in (6, 8) or words[4] not in HOMES or words[5] not in SIZES:
        return None
    if len(words) == 6:
        return ("make", words[1], "record", words[4], SIZES[words[5]], None)
    if words[6] != "then" or not is_local(words[7]):
        return None
    return ("close", words[1], "record", words[4], SIZES[words[5]], words[7])


def weak_form(words):
    if len(words) != 6 or words[4] not in HOMES or not is_name(words[5]):
        return None
    return ("make", words[1], "weak", words[4], words[5])


def map_form(words):
    if len(words) != 5 or words[4] not in HOMES:
        return None
    return ("make", words[1], "map", words[4])


MADE_FORMS = {"record": record_form, "weak": weak_form, "map": map_form}


def let_form(words):
    if len(words) < 4 or words[2] != "=" or not is_name(words[1]):
        return None
    if len(words) == 4:
        return word_form("let", words[1], words[3])
    if words[3] not in MADE_FORMS:
        return asked_form("let", words[1], words[3:])
    form = MADE_FORMS[words[3]]
    return form(words)


def say_form(words):
    if len(words) != 2:
        return asked_form("say", None, words[1:])
    statement = word_form("say", None, words[1])
    if statement is None or isinstance(statement[2], str):
        return statement
    # None and integers are told as they are written.
    return ("tell", ("say", words[1]))


def name_form(words):
    return (words[0], words[1]) if len(words) == 2 and is_name(words[1]) else None


def number_form(words):
    if len(words) != 2:
        return None
    number = number_of(words[1], MOST_NUMBER)
    return None if number is None else (words[0], number)


def bare_form(words):
    return (words[0],) if len(words) == 1 else None


def if_form(words):
    if len(words) != 4 or words[2] != "is":
        return None
    left = value_of(words[1])
    right = value_of(words[3])
    return None if left is False or right is False else ("if", left, right)


def proc_form(words):
    if not 2 <= len(words) <= 2 + MOST_PARAMETERS:
        return None
    if not all([is_local(word) for word in words[1:]]):
        return None
    names = words[2:]
    if any([names.count(name) > 1 for name in names]):
        return None
    return ("proc", words[1], tuple(names))


def do_form(words):
    if len(words) < 2 or not is_local(words[1]):
        return None
    values = tuple([value_of(word) for word in words[2:]])
    if any([value is False for value in values]):
        return None
    return ("do", words[1], values)


def store_form(words):
    """A row that begins with no word of its own: `Y.I = V` or `Y at Z = V`."""
    if len(words) not in (3, 5) or words[-2] != "=":
        return None
    value = value_of(words[-1])
    if value is False:
        return None
    if len(words) == 3:
        place = slot_of(words[0])
        return None if place is None else ("store", place[0], place[1], value)
    if words[1] != "at" or not is_name(words[0]) or not is_name(words[2]):
        return None
    return ("enter", words[0], words[2], value)


FORMS = {
    "let": let_form,
    "say": say_form,
    "drop": name_form,
    "hold": name_form,
    "release": name_form,
    "pin": name_form,
    "unpin": name_form,
    "if": if_form,
    "else": bare_form,
    "end": bare_form,
    "repeat": number_form,
    "proc": proc_form,
    "do": do_form,
    "minor": bare_form,
    "rings": number_form,
    "begin": bare_form,
    "slice": number_form,
    "compact": number_form,
    "finalize": bare_form,
    "settle": bare_form,
}


def statement_of(words):
    """The statement that the words of a row are, None if they have no form."""
    form = FORMS.get(words[0], store_form)
    return form(words)
