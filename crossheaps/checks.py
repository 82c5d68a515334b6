"""What statements look at ahead of all that they do, and what they read.

In a statement that tells or assigns what is there, this is named from its third part on.
"""
from crossheaps.errors import Fault
from crossheaps.things import object_value


def value_at(work, word):
    """The value of a variable, or the integer or None that stands in its place."""
    if not isinstance(word, str):
        return word
    scopes = work.heap.scopes
    # The innermost call has no global names, so that it may be asked first for all names.
    if word in scopes[-1]:
        return scopes[-1][word]
    if word.islower() or word not in scopes[0]:
        raise Fault("unset", work.row_now())
    return scopes[0][word]


def thing_of(work, value):
    """The object that the value is."""
    if not isinstance(value, tuple):
        raise Fault("object", work.row_now())
    return work.heap.objects[value[1]]


def thing_named(work, name):
    """The object that a variable holds."""
    return thing_of(work, value_at(work, name))


def need_sort(work, thing, sort):
    if thing.kind != sort:
        raise Fault("sort", work.row_now())


def need_slot(work, thing, slot):
    need_sort(work, thing, "record")
    if slot >= len(thing.slots):
        raise Fault("slot", work.row_now())


def need_held(work, many):
    if many == 0:
        raise Fault("held", work.row_now())


def slot_answer(work, statement):
    thing = thing_named(work, statement[2])
    need_slot(work, thing, statement[3])
    return thing.slots[statement[3]]


def weak_answer(work, statement):
    thing = thing_named(work, statement[2])
    need_sort(work, thing, "weak")
    if thing.target is None:
        return None
    work.heap.keep(thing.target)
    return object_value(thing.target)


def entry_answer(work, statement):
    value = value_at(work, statement[2])
    key = value_at(work, statement[3])
    owner = thing_of(work, value)
    found = thing_of(work, key)
    need_sort(work, owner, "map")
    return owner.entries.get(found.number)
