"""What the statements do that are no blocks.

An action returns True if something else is to go on ahead of the next statement.
"""
from crossheaps.checks import entry_answer, need_held, need_slot, need_sort
from crossheaps.checks import slot_answer, thing_named, thing_of, value_at, weak_answer
from crossheaps.collect import begin, compact, go_on, minor, rings
from crossheaps.making import Making, Settling, create, target_of
from crossheaps.things import shown_value


def let_value(work, statement):
    work.heap.assign(statement[1], value_at(work, statement[2]))


def let_slot(work, statement):
    work.heap.assign(statement[1], slot_answer(work, statement))


def let_get(work, statement):
    work.heap.assign(statement[1], weak_answer(work, statement))


def let_at(work, statement):
    work.heap.assign(statement[1], entry_answer(work, statement))


def say(work, value):
    work.heap.tell(("say", shown_value(value)))


def say_value(work, statement):
    say(work, value_at(work, statement[2]))


def say_slot(work, statement):
    say(work, slot_answer(work, statement))


def say_get(work, statement):
    say(work, weak_answer(work, statement))


def say_at(work, statement):
    say(work, entry_answer(work, statement))


def do_tell(work, statement):
    work.heap.tell(statement[1])


def do_make(work, statement):
    target = target_of(work, statement)
    if work.gauge is not None:
        work.gauge.measure(work.heap)
    if work.settles == 0 and work.has_policy:
        work.frames.append(Making(statement))
        return True
    create(work, statement, target)
    return False


def do_store(work, statement):
    _, name, slot, word = statement
    value = value_at(work, name)
    stored = value_at(work, word)
    thing = thing_of(work, value)
    need_slot(work, thing, slot)
    work.heap.store(thing, slot, stored)


def do_enter(work, statement):
    _, name, key_name, word = statement
    value = value_at(work, name)
    key_value = value_at(work, key_name)
    stored = value_at(work, word)
    owner = thing_of(work, value)
    key = thing_of(work, key_value)
    need_sort(work, owner, "map")
    work.heap.enter(owner, key.number, stored)


def do_drop(work, statement):
    value_at(work, statement[1])
    work.heap.unset(work.heap.scope_of(statement[1]), statement[1])


def do_hold(work, statement):
    work.heap.add_hold(thing_named(work, statement[1]))


def do_release(work, statement):
    thing = thing_named(work, statement[1])
    need_held(work, thing.holds)
    work.heap.end_hold(thing)


def do_pin(work, statement):
    work.heap.add_pin(thing_named(work, statement[1]))


def do_unpin(work, statement):
    thing = thing_named(work, statement[1])
    need_held(work, thing.pins)
    work.heap.end_pin(thing)


def do_call(work, statement):
    work.need_depth()
    values = [value_at(work, word) for word in statement[2]]
    work.call(work.procedures[statement[1]], values)
    return True


def do_minor(work, _):
    minor(work.heap, 1)


def do_rings(work, statement):
    rings(work.heap, statement[1])


def do_begin(work, _):
    begin(work.heap)


def do_slice(work, statement):
    go_on(work.heap, statement[1])


def do_compact(work, statement):
    compact(work.heap, statement[1])


def do_finalize(work, _):
    if len(work.heap.line) == 0:
        return False
    work.close_first()
    return True


def do_settle(work, _):
    work.push_settling(Settling(work.heap.losses))
    return True


# Those of blocks hang on where these end.
ACTIONS = {
    "if": None,
    "else": None,
    "repeat": None,
    "proc": None,
    "end": None,
    "let value": let_value,
    "let slot": let_slot,
    "let get": let_get,
    "let at": let_at,
    "make": do_make,
    "close": do_make,
    "say value": say_value,
    "say slot": say_slot,
    "say get": say_get,
    "say at": say_at,
    "tell": do_tell,
    "store": do_store,
    "enter": do_enter,
    "drop": do_drop,
    "hold": do_hold,
    "release": do_release,
    "pin": do_pin,
    "unpin": do_unpin,
    "do": do_call,
    "minor": do_minor,
    "rings": do_rings,
    "begin": do_begin,
    "slice": do_slice,
    "compact": do_compact,
    "finalize": do_finalize,
    "settle": do_settle,
}
