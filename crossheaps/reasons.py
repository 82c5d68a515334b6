"""Reasons: why an object is alive, at the least cost."""
from heapq import heappop, heappush

from crossheaps.nets import Net, arcs_of, is_link, need_objects
from crossheaps.things import is_integer


def cost(snapshot, number):
    """The cost of an object, None if it is not alive."""
    need_objects(snapshot, [number])
    found = cheapest(arcs_of(snapshot))
    return found[number][0] if number in found else None


def reason(snapshot, number):
    """A reason for an object with the least cost, None if it is not alive."""
    need_objects(snapshot, [number])
    found = cheapest(arcs_of(snapshot))
    if number not in found:
        return None
    needed = {number: True}
    pairs = []
    for other in reversed(list(found)):
        if other in needed:
            _, link, sources = found[other]
            pairs.append((other, link))
            for source in sources:
                needed[source] = True
    return tuple(reversed(list(pairs)))


def shows_reason(snapshot, number, value):
    """Whether any value is a reason for an object with the least cost."""
    need_objects(snapshot, [number])
    arcs = arcs_of(snapshot)
    found = cheapest(arcs)
    return number in found and cost_shown(arcs, number, value) == found[number][0]


def cheapest(arcs):
    """(cost, link, sources) of a cheapest link to each alive object, the least cost first.

    No link costs less than what it needs. So the cheapest link to an object that is not met
    yet, among those whose sources are met, has the cost of this object.
    """
    net = Net(arcs)
    queue = []
    for link, sources, target in net.begun():
        heappush(queue, (1, target, link, sources))
    found = {}
    while len(queue) > 0:
        price, number, by_link, needs = heappop(queue)
        if number in found:
            continue
        found[number] = (price, by_link, needs)
        for link, sources, target in net.opened(number):
            price = 1 + sum([found[source][0] for source in sources])
            heappush(queue, (price, target, link, sources))
    return found


def cost_shown(arcs, number, value):
    """The cost of a reason that any value is, None if it is no reason for the object."""
    if not isinstance(value, tuple) or len(value) == 0:
        return None
    known = {link: (sources, target) for link, sources, target in arcs}
    costs = {}
    used = {}
    for pair in value:
        if not is_pair(pair) or pair[0] in costs or pair[1] not in known:
            return None
        sources, target = known[pair[1]]
        if target != pair[0] or not all([source in costs for source in sources]):
            return None
        costs[target] = 1 + sum([costs[source] for source in sources])
        for source in sources:
            used[source] = True
    if value[-1][0] != number or not all([pair[0] in used for pair in value[:-1]]):
        return None
    return costs[number]


def is_pair(value):
    """Whether any value has the form of a pair (object, link)."""
    if not isinstance(value, tuple) or len(value) != 2:
        return False
    return is_integer(value[0]) and is_link(value[1])
