"""Burying: what collections do with dead objects."""
from crossheaps.graph import leading_back, leads_among, spread
from crossheaps.things import closes, references_of


def bury(heap, dead, below):
    """Buries the dead objects, ascending numbers; removes idle proxies below an age."""
    clear_targets(heap, dead)
    remove_entries(heap, dead)
    staying = queue_rings(heap, dead)
    free_others(heap, dead, staying)
    remove_proxies(heap, below)
    heap.fall(heap.fallen())


def clear_targets(heap, dead):
    objects = heap.objects
    for number in sorted([weak for target in dead for weak in objects[target].weaks]):
        heap.clear_weak(number)


def remove_entries(heap, dead):
    objects = heap.objects
    for number, key in sorted([(owner, dying) for dying in dead for owner in objects[dying].maps]):
        heap.unkey(number, key)
        heap.end_step()


def queue_rings(heap, dead):
    """Queues the objects of the rings that no other ring uses.

    Returns what the queued ones lead to, and they themselves, as a dict of True. As the entries
    with dead keys are removed, nothing else leads to the dead: other objects are left out.
    """
    staying = {}
    closers = [number for number in dead if closes(heap.objects[number])]
    if len(closers) == 0:
        return staying
    leads = leads_among(heap, dead)
    firsts = []
    for number in closers:
        if number not in staying:
            firsts.append(number)
            spread(leads, number, staying)
    closing = {number: True for number in closers}
    for ring in free_rings(leads, firsts):
        for number in ring:
            if number in closing:
                heap.enqueue(heap.objects[number])
    return staying


def free_rings(leads, firsts):
    """The rings that no object of another ring uses, that with the least number first.

    They come with what lies between their closing objects. The least object of such a ring is
    met by no earlier search, so that it is one of firsts. Of these, a later one may use an
    earlier one, not the other way round. So the searches are made again, the last one first:
    what is still not met then is used by no other ring.
    """
    met = {}
    rings = {}
    for head in reversed(list(firsts)):
        if head not in met:
            nodes = spread(leads, head, met)
            rings[head] = sorted(leading_back(leads, head, nodes))
    return [rings[head] for head in sorted(list(rings))]


def free_others(heap, dead, staying):
    """Frees, in one step, the dead objects that do not stay."""
    for number in dead:
        if number not in staying:
            heap.free(heap.objects[number])
    heap.end_step()


def remove_proxies(heap, below):
    """Removes the proxies below an age to whose objects no traced object has a reference."""
    idle = [number for number in sorted(list(heap.proxied))
            if heap.objects[number].proxy < below]
    if len(idle) == 0:
        return
    used = {}
    for thing in heap.objects.values():
        if thing.home == "traced":
            for number in references_of(thing):
                used[number] = True
    for number in idle:
        if number not in used:
            heap.unproxy(heap.objects[number])
            heap.end_step()
