"""Minor collections, rings, cycles and the moving of traced objects."""
from crossheaps.burial import bury
from crossheaps.graph import reach_of, roots_of, spread
from crossheaps.heap import Sweep
from crossheaps.pages import emptied
from crossheaps.things import OLD, references_of

# Burying removes idle proxies below these ages; no proxy gets older than OLD.
NO_PROXIES = 0
YOUNG_PROXIES = 2
ALL_PROXIES = 3


def minor(heap, years):
    """A minor collection; what is left gets older by so many years."""
    heap.tell(("minor",))
    bury(heap, minor_dead(heap), YOUNG_PROXIES)
    grow(heap, years)
    move_old(heap)
    give_back(heap)


def minor_dead(heap):
    if len(heap.young) == 0:
        return []
    starts = roots_of(heap)
    starts.extend([number for number in heap.objects if number not in heap.young])
    reach = reach_of(heap, starts)
    return [number for number in heap.young if number not in reach]


def grow(heap, years):
    for number in heap.proxied:
        thing = heap.objects[number]
        thing.proxy = min(OLD, thing.proxy + years)
    for number in list(heap.young):
        thing = heap.objects[number]
        thing.age = min(OLD, thing.age + years)
        if thing.age == OLD:
            del heap.young[number]
            heap.tell(("old", number))


def move_old(heap):
    """Moves the old objects that lie in young pages, but for pinned ones."""
    shelf = heap.shelf
    movers = []
    for page in shelf.of_kind("young"):
        movers.extend([number for number in shelf.inhabitants(page)
                       if number not in heap.young and heap.objects[number].pins == 0])
    for number in sorted(movers):
        move(heap, number, {})


def move(heap, number, barred):
    """Moves an object to the least free place of the old pages that are not barred."""
    shelf = heap.shelf
    place = shelf.room("old", barred)
    if place is None:
        page = shelf.make("old")
        heap.tell(("page", page, "old"))
        place = (page, 0)
    shelf.take(number)
    shelf.put(number, place)
    heap.tell(("move", number, place[0], place[1]))


def give_back(heap):
    for page in heap.shelf.give_back():
        heap.tell(("back", page))


def begin(heap):
    """Begins a cycle, unless one is running."""
    if heap.sweep is not None:
        return
    minor(heap, OLD)
    heap.sweep = Sweep(heap.fresh, reach_of(heap, roots_of(heap)))
    heap.tell(("begin",))


def go_on(heap, many):
    """A slice of the running cycle."""
    sweep = heap.sweep
    if sweep is None:
        return
    sweep.done += many
    if sweep.done >= len(sweep.marks):
        finish(heap)


def finish(heap):
    """Ends the cycle, if one is running."""
    sweep = heap.sweep
    if sweep is None:
        return
    heap.sweep = None
    heap.tell(("finish",))
    dead = [number for number in heap.objects
            if number < sweep.first and number not in sweep.marks]
    bury(heap, dead, ALL_PROXIES)
    give_back(heap)


def rings(heap, many):
    """Looks for rings of counted objects from the first so many candidates."""
    heap.tell(("rings",))
    starts = list(heap.suspects)[:many]
    for number in starts:
        del heap.suspects[number]
    leads = group_of(heap, starts)
    alive = supported(heap, leads)
    bury(heap, [number for number in sorted(list(leads)) if number not in alive], NO_PROXIES)


def group_of(heap, starts):
    """The counted objects to which starts lead through counted ones, they themselves too.

    For each of them those to which it has references, as often as it has them.
    """
    leads = {}
    ahead = list(starts)
    while len(ahead) > 0:
        number = ahead.pop()
        if number not in leads:
            leads[number] = [other for other in references_of(heap.objects[number])
                             if heap.objects[other].home == "counted"]
            ahead.extend(leads[number])
    return leads


def supported(heap, leads):
    """The objects of the group that something beyond it holds, and what they lead to."""
    inner = {number: 0 for number in leads}
    for others in leads.values():
        for other in others:
            inner[other] += 1
    met = {}
    for number in leads:
        if number not in met and heap.objects[number].count > inner[number]:
            spread(leads, number, met)
    return met


def compact(heap, moves):
    """Empties old pages into the others."""
    shelf = heap.shelf
    pages = []
    for page in shelf.of_kind("old"):
        tenants = shelf.inhabitants(page)
        pinned = any([heap.objects[number].pins > 0 for number in tenants])
        pages.append((page, len(tenants), pinned))
    barred = {page: True for page in emptied(tuple(pages), moves)}
    for page in barred:
        for number in shelf.inhabitants(page):
            move(heap, number, barred)
    give_back(heap)
