"""What leads to what on a heap."""
from crossheaps.things import is_object, references_of


def roots_of(heap):
    """The numbers of the objects that variables, the queue, pins and holds hold."""
    found = heap.line + list(heap.gripped)
    for scope in heap.scopes:
        for value in scope.values():
            if is_object(value):
                found.append(value[1])
    return found


def reach_of(heap, starts):
    """The reach of some objects, as a dict of True."""
    met = {}
    waiting = {}
    ahead = list(starts)
    while len(ahead) > 0:
        number = ahead.pop()
        if number in met:
            continue
        met[number] = True
        thing = heap.objects[number]
        for value in thing.slots:
            if is_object(value):
                ahead.append(value[1])
        for key, value in thing.entries.items():
            # A value waits for its key, which may be met later than its map.
            if is_object(value) and key in met:
                ahead.append(value[1])
            elif is_object(value):
                waiting.setdefault(key, []).append(value[1])
        ahead.extend(waiting.get(number, []))
    return met


def spread(heap, starts, met):
    """What starts lead to by references, whatever the keys, they themselves too.

    Only objects that are not in the dict met are found; they are added to it.
    """
    found = []
    ahead = list(starts)
    while len(ahead) > 0:
        number = ahead.pop()
        if number not in met:
            met[number] = True
            found.append(number)
            ahead.extend(references_of(heap.objects[number]))
    return found


def leading_back(heap, head, nodes):
    """Those of the nodes that lead to the head through nodes alone, as a dict of True."""
    holders = {number: [] for number in nodes}
    for number in nodes:
        for other in references_of(heap.objects[number]):
            if other in holders:
                holders[other].append(number)
    met = {}
    ahead = [head]
    while len(ahead) > 0:
        number = ahead.pop()
        if number not in met:
            met[number] = True
            ahead.extend(holders[number])
    return met
