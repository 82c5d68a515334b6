"""What leads to what on a heap."""
from crossheaps.things import is_object, references_of


def roots_of(heap):
    """The numbers of the objects that variables, the queue, pins and holds hold."""
    found = heap.line + list(heap.gripped)
    for scope in heap.scopes:
        for value in scope.values():
            if is_object(value):
                found.append(value[1])
    return found


def reach_of(heap, starts):
    """The reach of some objects, as a dict of True."""
    met = {}
    waiting = {}
    ahead = list(starts)
    while len(ahead) > 0:
        number = ahead.pop()
        if number in met:
            continue
        met[number] = True
        thing = heap.objects[number]
        ahead.extend([value[1] for value in thing.slots if isinstance(value, tuple)])
        for key, value in thing.entries.items():
            # A value waits for its key, which may be met later than its map.
            if isinstance(value, tuple):
                if key in met:
                    ahead.append(value[1])
                else:
                    waiting.setdefault(key, []).append(value[1])
        if number in waiting:
            ahead.extend(waiting[number])
    return met


def leads_among(heap, numbers):
    """To which of these objects each of them has references, whatever the keys."""
    there = {number: True for number in numbers}
    found = {}
    for number in numbers:
        references = references_of(heap.objects[number])
        found[number] = [other for other in references if other in there]
    return found


def spread(leads, start, met):
    """What an object leads to, it itself too, but for what is in the dict met; adds it to this."""
    met[start] = True
    found = [start]
    ahead = [start]
    while len(ahead) > 0:
        number = ahead.pop()
        for other in leads[number]:
            if other not in met:
                met[other] = True
                found.append(other)
                ahead.append(other)
    return found


def leading_back(leads, head, nodes):
    """Those of the nodes that lead to the head through nodes alone, it itself too."""
    if not any([head in leads[number] for number in nodes]):
        return [head]
    holders = {number: [] for number in nodes}
    for number in nodes:
        for other in leads[number]:
            if other in holders:
                holders[other].append(number)
    return spread(holders, head, {})
