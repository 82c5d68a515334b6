"""What the statements do that are no blocks."""
from crossheaps.checks import answer, need_held, need_slot, need_sort
from crossheaps.checks import thing_named, things_of, value_at, values_of
from crossheaps.collect import begin, compact, go_on, minor, rings
from crossheaps.making import Making, Settling
from crossheaps.things import shown_value

MADE = ("record", "weak", "map")


def do_let(work, statement):
    name = statement[1]
    source = statement[2]
    if source[0] not in MADE:
        value = answer(work, source)
        work.heap.assign(work.heap.scope_of(name), name, value)
        return
    if source[0] == "weak":
        thing_named(work, source[2])
    work.push_making(Making(name, source))


def do_store(work, statement):
    values = values_of(work, [statement[1], statement[3]])
    thing = things_of(work, values[:1])[0]
    need_sort(work, thing, "record")
    need_slot(work, thing, statement[2])
    work.heap.store(thing, statement[2], values[1])


def do_enter(work, statement):
    values = values_of(work, statement[1:])
    owner, key = things_of(work, values[:2])
    need_sort(work, owner, "map")
    work.heap.enter(owner, key.number, values[2])


def do_drop(work, statement):
    value_at(work, statement[1])
    work.heap.unset(work.heap.scope_of(statement[1]), statement[1])


def do_hold(work, statement):
    work.heap.add_hold(thing_named(work, statement[1]))


def do_release(work, statement):
    thing = thing_named(work, statement[1])
    need_held(work, thing.holds)
    work.heap.end_hold(thing)


def do_pin(work, statement):
    work.heap.add_pin(thing_named(work, statement[1]))


def do_unpin(work, statement):
    thing = thing_named(work, statement[1])
    need_held(work, thing.pins)
    work.heap.end_pin(thing)


def do_say(work, statement):
    value = answer(work, statement[1])
    work.heap.tell(("say", shown_value(value)))


def do_call(work, statement):
    work.need_depth()
    work.call(work.procedures[statement[1]], values_of(work, statement[2]))


def do_minor(work, _):
    minor(work.heap, 1)


def do_rings(work, statement):
    rings(work.heap, statement[1])


def do_begin(work, _):
    begin(work.heap)


def do_slice(work, statement):
    go_on(work.heap, statement[1])


def do_compact(work, statement):
    compact(work.heap, statement[1])


def do_finalize(work, _):
    if len(work.heap.line) > 0:
        work.close_first()


def do_settle(work, _):
    work.push_settling(Settling(work.heap.losses))


ACTIONS = {
    "let": do_let,
    "store": do_store,
    "enter": do_enter,
    "drop": do_drop,
    "hold": do_hold,
    "release": do_release,
    "pin": do_pin,
    "unpin": do_unpin,
    "say": do_say,
    "do": do_call,
    "minor": do_minor,
    "rings": do_rings,
    "begin": do_begin,
    "slice": do_slice,
    "compact": do_compact,
    "finalize": do_finalize,
    "settle": do_settle,
}
