"""Burying: what collections do with dead objects."""
from crossheaps.graph import leading_back, spread
from crossheaps.things import closes, references_of


def bury(heap, dead, below):
    """Buries the dead objects, ascending numbers; removes idle proxies below an age."""
    clear_targets(heap, dead)
    remove_entries(heap, dead)
    queued = queue_rings(heap, dead)
    free_others(heap, dead, queued)
    remove_proxies(heap, below)
    heap.fall()


def clear_targets(heap, dead):
    found = []
    for number in dead:
        found.extend(list(heap.objects[number].weaks))
    for weak in sorted(found):
        heap.clear_weak(weak)


def remove_entries(heap, dead):
    found = []
    for number in dead:
        found.extend([(owner, number) for owner in heap.objects[number].maps])
    for owner, key in sorted(found):
        heap.unkey(owner, key)
        heap.end_step()


def queue_rings(heap, dead):
    """Queues the objects of the rings that no other ring uses; returns their numbers."""
    closers = [number for number in dead if closes(heap.objects[number])]
    queued = []
    for ring in free_rings(heap, closers):
        for number in ring:
            heap.enqueue(heap.objects[number])
            queued.append(number)
    # The counts ahead of the next step are those with the queue.
    heap.end_step()
    return queued


def free_rings(heap, closers):
    """The rings that no object of another ring uses, that with the least number first.

    The least object of such a ring is met by no earlier search. Of the objects that are met so,
    a later one may use an earlier one, not the other way round. So the searches are made again,
    the last one first: what is still not met then is used by no other ring.
    """
    met = {}
    firsts = []
    for number in closers:
        if len(spread(heap, [number], met)) > 0:
            firsts.append(number)
    closing = {number: True for number in closers}
    met = {}
    rings = {}
    for head in reversed(list(firsts)):
        nodes = spread(heap, [head], met)
        if len(nodes) > 0:
            back = leading_back(heap, head, nodes)
            rings[head] = sorted([number for number in back if number in closing])
    return [rings[head] for head in sorted(list(rings))]


def free_others(heap, dead, queued):
    """Frees, in one step, what the queued objects do not lead to."""
    met = {}
    spread(heap, queued, met)
    for number in dead:
        if number not in met:
            heap.free(heap.objects[number])
    heap.end_step()


def remove_proxies(heap, below):
    """Removes the proxies below an age to whose objects no traced object has a reference."""
    if below == 0:
        return
    used = {}
    for thing in heap.objects.values():
        if thing.home == "traced":
            for number in references_of(thing):
                used[number] = True
    idle = [thing for number, thing in heap.objects.items()
            if thing.proxy is not None and thing.proxy < below and number not in used]
    for thing in idle:
        heap.unproxy(thing)
        heap.end_step()
