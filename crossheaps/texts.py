"""Snapshots as texts."""
from crossheaps.errors import BadText
from crossheaps.forms import HOMES, SLOTS, is_name, whole_of
from crossheaps.snapshots import GRIPS, is_snapshot

MOST_DIGITS = 30


def show_snapshot(snapshot):
    """The text of a snapshot: a row for each root, then one for each object."""
    roots, objects = snapshot
    rows = [f"root {root} {number}" for root, number in roots]
    for number, home, sort, parts in objects:
        rows.append(" ".join([str(number), home, sort] + shown_parts(sort, parts)))
    return "\n".join(rows)


def shown_parts(sort, parts):
    if sort == "weak":
        return [str(target) for target in parts]
    return [f"{first}:{'-' if other is None else other}" for first, other in parts]


def read_snapshot(text):
    """The snapshot of which any value is the text."""
    if not isinstance(text, str):
        raise BadText(0)
    if text == "":
        return ((), ())
    roots = []
    objects = []
    lines = text.split("\n")
    for at, line in enumerate(lines):
        words = line.split(" ")
        row = read_root(words) if words[0] == "root" else read_object(words)
        if row is None:
            raise BadText(at)
        if words[0] == "root":
            roots.append(row)
        else:
            objects.append(row)
    found = (tuple(roots), tuple(objects))
    # A root behind an object has a form, but it is shown ahead of it.
    if not is_snapshot(found) or show_snapshot(found) != text:
        raise BadText(len(lines))
    return found


def number_in(word):
    return whole_of(word, MOST_DIGITS)


def read_root(words):
    """The pair (root, number) of a row, None if it has no form."""
    number = number_in(words[-1])
    if number is None:
        return None
    if len(words) == 3 and is_name(words[1]):
        return (words[1], number)
    if len(words) == 4 and words[1] in GRIPS and number_in(words[2]) is not None:
        return (f"{words[1]} {words[2]}", number)
    return None


def read_object(words):
    """(number, home, sort, parts) of a row, None if it has no form."""
    number = number_in(words[0])
    if number is None or len(words) < 3 or words[1] not in HOMES or words[2] not in READERS:
        return None
    reader = READERS[words[2]]
    parts = [reader(word) for word in words[3:]]
    if None in parts or (words[2] == "weak" and len(parts) > 1):
        return None
    return (number, words[1], words[2], tuple(parts))


def read_slot(word):
    first, _, second = word.partition(":")
    other = number_in(second)
    return None if first not in SLOTS or other is None else (SLOTS[first], other)


def read_entry(word):
    first, _, second = word.partition(":")
    key = number_in(first)
    other = number_in(second)
    if key is None or (other is None and second != "-"):
        return None
    return (key, other)


READERS = {"record": read_slot, "map": read_entry, "weak": number_in}
