"""Machines made of the rows of saved texts, which may be any texts."""
from crossheaps.errors import BadText, HeapError
from crossheaps.forms import HOMES, is_name, value_of, whole_of
from crossheaps.graph import reach_of, roots_of
from crossheaps.heap import Sweep
from crossheaps.machine import Machine
from crossheaps.pages import CELLS
from crossheaps.programs import procedures_in, steps_of
from crossheaps.scripts import examine, statements_of
from crossheaps.things import OLD, Thing, is_object, object_value, references_of

MOST_DIGITS = 30
MOST_SLOTS = 6


def need(is_so):
    if not is_so:
        raise BadText(0)


def machine_of(text):
    """The machine that the rows of a text describe, if they do."""
    lines = text.split("\n")
    starts = [at for at, line in enumerate(lines) if line.startswith("at ")]
    last = starts[0] if len(starts) > 0 else len(lines)
    machine = with_policy(lines[0].split(" "))
    for line in lines[1:last]:
        head, *words = line.split(" ")
        need(head in READERS)
        reader = READERS[head]
        reader(machine.heap, words)
    machine.procedures = read_procedures(lines, starts)
    tie_all(machine.heap)
    count_all(machine.heap)
    need_sound(machine.heap, machine.procedures)
    return machine


def with_policy(words):
    """A new machine with the policy of a row."""
    need(len(words) == 5)
    young, start, pace, limit = [read_optional(word) for word in words[1:]]
    try:
        return Machine(young=young, start=start, pace=pace, limit=limit)
    except HeapError:
        raise BadText(0) from None


def read_number(word):
    number = whole_of(word, MOST_DIGITS)
    need(number is not None)
    return number


def read_optional(word):
    return None if word == "none" else read_number(word)


def read_value(word):
    """The value that is shown so."""
    if word.startswith("#"):
        return object_value(read_number(word[1:]))
    value = value_of(word)
    need(value is not False and not isinstance(value, str))
    return value


def read_next(heap, words):
    need(len(words) == 2)
    heap.fresh = read_number(words[0])
    heap.shelf.made = read_number(words[1])


def read_queue(heap, words):
    heap.line = [read_number(word) for word in words]


def read_candidates(heap, words):
    heap.suspects = {read_number(word): True for word in words}


def read_cycle(heap, words):
    if len(words) > 0:
        need(len(words) > 1)
        first, done, *kept = [read_number(word) for word in words]
        heap.sweep = Sweep(first, {number: True for number in kept})
        heap.sweep.done = done


def read_variable(heap, words):
    need(len(words) == 2 and is_name(words[0]))
    heap.scopes[0][words[0]] = read_value(words[1])


def read_page(heap, words):
    need(len(words) == 2 + CELLS and words[1] in ("young", "old"))
    cells = [read_optional(word) for word in words[2:]]
    heap.shelf.lay(read_number(words[0]), words[1], cells)


def read_object(heap, words):
    need(len(words) >= 6 and words[1] in HOMES and words[2] in FILLERS)
    thing = Thing(read_number(words[0]), words[1], words[2])
    heap.objects[thing.number] = thing
    thing.pins = read_number(words[3])
    thing.holds = read_number(words[4])
    if thing.pins > 0 or thing.holds > 0:
        heap.gripped[thing.number] = True
    age = read_optional(words[5])
    need(age is None or age <= OLD)
    if thing.home == "traced":
        need(age is not None)
        thing.age = age
        if age < OLD:
            heap.young[thing.number] = True
    elif age is not None:
        thing.proxy = age
        heap.proxied[thing.number] = True
    filler = FILLERS[thing.kind]
    filler(thing, words[6:])


def fill_record(thing, words):
    need(2 <= len(words) <= 2 + MOST_SLOTS and words[1] in ("new", "queued"))
    thing.closing = None if words[0] == "none" else words[0]
    thing.queued = words[1] == "queued"
    thing.slots = [read_value(word) for word in words[2:]]


def fill_map(thing, words):
    for word in words:
        key, _, value = word.partition(":")
        need(value != "none")
        thing.entries[read_number(key)] = read_value(value)


def fill_weak(thing, words):
    need(len(words) == 1)
    thing.target = read_optional(words[0])


FILLERS = {"record": fill_record, "map": fill_map, "weak": fill_weak}
READERS = {
    "next": read_next,
    "queue": read_queue,
    "candidates": read_candidates,
    "cycle": read_cycle,
    "let": read_variable,
    "page": read_page,
    "object": read_object,
}


def read_procedures(lines, starts):
    """The procedures behind the rows that begin them, as a script of their own."""
    ends = starts[1:] + [len(lines)]
    rows = []
    firsts = {}
    for start, end in zip(starts, ends):
        firsts[len(rows)] = read_number(lines[start][len("at "):])
        rows.extend(lines[start + 1:end])
    text = "\n".join(rows)
    try:
        statements = statements_of(text)
        partners = examine(statements, {})
    except HeapError:
        raise BadText(0) from None
    found = procedures_in(text, statements, partners, steps_of(statements, partners))
    for procedure in found.values():
        at = procedure.start - 1
        need(at in firsts)
        procedure.shift = firsts[at] - at
    return found


def tie_all(heap):
    """Tells objects what aims at them, and of which maps they are keys."""
    for number in roots_of(heap):
        need(number in heap.objects)
    for thing in list(heap.objects.values()):
        for number in references_of(thing) + list(thing.entries):
            need(number in heap.objects)
        for key in list(thing.entries):
            heap.objects[key].maps[thing.number] = True
        if thing.target is not None:
            need(thing.target in heap.objects)
            heap.objects[thing.target].weaks[thing.number] = True


def count_all(heap):
    """Gives the counted objects their counts."""
    held = list(heap.line)
    held.extend([value[1] for value in heap.scopes[0].values() if is_object(value)])
    for thing in heap.objects.values():
        if thing.home == "counted":
            thing.count += thing.pins + thing.holds + (0 if thing.proxy is None else 1)
            held.extend(references_of(thing))
    for number in held:
        heap.gain(heap.objects[number])


def need_sound(heap, procedures):
    """Raises BadText if no run can leave a heap so."""
    need(all([number < heap.fresh for number in heap.objects]))
    for thing in heap.objects.values():
        need_sound_thing(heap, thing, procedures)
    need(len(set(heap.line)) == len(heap.line))
    need(all([heap.objects[number].queued for number in heap.line]))
    for number in heap.suspects:
        need(number in heap.objects and heap.objects[number].home == "counted")
    need_sound_pages(heap)
    if heap.sweep is not None:
        need_sound_cycle(heap, heap.sweep)


def need_sound_thing(heap, thing, procedures):
    if thing.closing is not None:
        need(thing.closing in procedures and len(procedures[thing.closing].parameters) == 1)
    need(thing.closing is not None or not thing.queued)
    need(thing.home == "traced" or thing.count > 0)
    if thing.home == "traced":
        for number in references_of(thing):
            need(heap.objects[number].home == "traced" or heap.objects[number].proxy is not None)


def need_sound_pages(heap):
    """Each traced object lies in one cell, an object of an old page is old."""
    shelf = heap.shelf
    lying = []
    for page in shelf.cells:
        there = shelf.inhabitants(page)
        need(page < shelf.made and len(there) > 0)
        lying.extend(there)
        for number in there:
            need(number not in heap.young or shelf.kinds[page] == "young")
    traced = [number for number, thing in heap.objects.items() if thing.home == "traced"]
    need(sorted(lying) == sorted(traced))


def need_sound_cycle(heap, sweep):
    """Nothing can lead from what is kept or newer to what the cycle gives up."""
    need(sweep.first <= heap.fresh and (sweep.done == 0 or sweep.done < sweep.first))
    need(all([number in heap.objects and number < sweep.first for number in sweep.marks]))
    later = [number for number in heap.objects if number >= sweep.first]
    reach = reach_of(heap, roots_of(heap) + list(sweep.marks) + later)
    need(all([number >= sweep.first or number in sweep.marks for number in reach]))
