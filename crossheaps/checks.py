"""What statements look at ahead of all that they do, and what they read."""
from crossheaps.errors import Fault
from crossheaps.things import is_object, object_value


def values_of(work, words):
    """The values of names, integers and None."""
    return [value_at(work, word) for word in words]


def value_at(work, word):
    if not isinstance(word, str):
        return word
    scope = work.heap.scope_of(word)
    if word not in scope:
        raise Fault("unset", work.row_now())
    return scope[word]


def things_of(work, values):
    """The objects that the values are."""
    for value in values:
        if not is_object(value):
            raise Fault("object", work.row_now())
    return [work.heap.objects[value[1]] for value in values]


def thing_named(work, name):
    return things_of(work, [value_at(work, name)])[0]


def need_sort(work, thing, sort):
    if thing.kind != sort:
        raise Fault("sort", work.row_now())


def need_slot(work, thing, slot):
    if slot >= len(thing.slots):
        raise Fault("slot", work.row_now())


def need_held(work, many):
    if many == 0:
        raise Fault("held", work.row_now())


def answer(work, source):
    """What a source that makes no object gives."""
    if source[0] == "value":
        return value_at(work, source[1])
    if source[0] == "slot":
        return slot_answer(work, source[1], source[2])
    if source[0] == "get":
        return weak_answer(work, source[1])
    return entry_answer(work, source[1], source[2])


def slot_answer(work, name, slot):
    thing = thing_named(work, name)
    need_sort(work, thing, "record")
    need_slot(work, thing, slot)
    return thing.slots[slot]


def weak_answer(work, name):
    thing = thing_named(work, name)
    need_sort(work, thing, "weak")
    if thing.target is None:
        return None
    work.heap.keep(thing.target)
    return object_value(thing.target)


def entry_answer(work, name, key):
    owner, found = things_of(work, values_of(work, [name, key]))
    need_sort(work, owner, "map")
    return owner.entries.get(found.number)
