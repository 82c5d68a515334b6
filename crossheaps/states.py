"""Machines as texts: all that a machine outside of a run has.

Such a text has, in this order: the policy; the numbers of the next object and the next page; the
queue; the candidates; the running cycle with its kept objects; the variables; the pages; the
objects; and the procedures, each behind a row with the number that its first row had.
"""
from crossheaps.errors import BadText
from crossheaps.loading import machine_of
from crossheaps.things import shown_value


def save(machine):
    """A text of everything that a machine has; the same state has the same text."""
    heap = machine.heap
    shelf = heap.shelf
    rows = [
        row_of("policy", list(machine.policy.values())),
        row_of("next", [heap.fresh, shelf.made]),
        row_of("queue", heap.line),
        row_of("candidates", list(heap.suspects)),
        row_of("cycle", cycle_of(heap.sweep)),
    ]
    for name, value in machine.variables:
        rows.append(row_of(f"let {name}", [value]))
    for page in sorted(list(shelf.cells)):
        rows.append(row_of(f"page {page} {shelf.kinds[page]}", shelf.cells[page]))
    for number in sorted(list(heap.objects)):
        rows.append(object_row(heap.objects[number]))
    for name in sorted(list(machine.procedures)):
        rows.extend(procedure_rows(machine.procedures[name]))
    return "\n".join(rows)


def row_of(head, values):
    return " ".join([head] + [shown_value(value) for value in values])


def cycle_of(sweep):
    return [] if sweep is None else [sweep.first, sweep.done] + sorted(list(sweep.marks))


def object_row(thing):
    age = thing.age if thing.home == "traced" else thing.proxy
    head = f"object {thing.number} {thing.home} {thing.kind}"
    return " ".join([row_of(head, [thing.pins, thing.holds, age])] + parts_of(thing))


def parts_of(thing):
    if thing.kind == "weak":
        return [shown_value(thing.target)]
    if thing.kind == "map":
        keys = sorted(list(thing.entries))
        return [f"{key}:{shown_value(thing.entries[key])}" for key in keys]
    closing = "none" if thing.closing is None else thing.closing
    queued = "queued" if thing.queued else "new"
    return [closing, queued] + [shown_value(value) for value in thing.slots]


def procedure_rows(procedure):
    first = procedure.start - 1 + procedure.shift
    return [row_of("at", [first])] + list(procedure.lines)


def resume(text):
    """A machine in the state of which any value is the text."""
    if not isinstance(text, str):
        raise BadText(0)
    machine = machine_of(text)
    # Rows in another order, or twice, give a state, too, but not that of this text.
    if save(machine) != text:
        raise BadText(0)
    return machine
