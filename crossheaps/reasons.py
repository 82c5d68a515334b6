"""Reasons: why an object is alive, at the least cost."""
from heapq import heappop, heappush

from crossheaps.nets import is_link, need_objects, net_of, sources_of
from crossheaps.things import is_integer


def cost(snapshot, number):
    """The cost of an object, None if it is not alive."""
    net = net_of(snapshot)
    need_objects(net, [number])
    return Costs(net, number).found.get(number)


def reason(snapshot, number):
    """A reason for an object with the least cost, None if it is not alive."""
    net = net_of(snapshot)
    need_objects(net, [number])
    costs = Costs(net, number)
    if number not in costs.found:
        return None
    needed = {number: True}
    pairs = []
    for other in reversed(list(costs.found)):
        if other in needed:
            link = costs.links[other]
            pairs.append((other, link))
            for source in sources_of(link):
                needed[source] = True
    return tuple(reversed(list(pairs)))


def shows_reason(snapshot, number, value):
    """Whether any value is a reason for an object with the least cost."""
    net = net_of(snapshot)
    need_objects(net, [number])
    shown = cost_shown(net, number, value)
    return shown is not None and shown == Costs(net, number).found[number]


class Costs:
    """The costs of alive objects, the least first, up to that of a wanted one.

    No link costs less than what it needs. So the cheapest offer to an object that is not found
    yet, among those by links whose sources are found, is the cost of this object. `links` has
    the link of the cheapest offer to each object.
    """

    def __init__(self, net, wanted):
        self.found = {}
        self.links = {}
        self.offers = {}
        self.ahead = []
        self.waiting = {}
        for root, number in net.roots:
            self.offer(1, number, ("root", root))
        while len(self.ahead) > 0 and wanted not in self.found:
            price, number = heappop(self.ahead)
            if number not in self.found:
                self.found[number] = price
                self.go_on(number, net.rows[number])

    def offer(self, price, number, link):
        if number not in self.offers or price < self.offers[number]:
            self.offers[number] = price
            self.links[number] = link
            heappush(self.ahead, (price, number))

    def go_on(self, number, row):
        """Makes the offers that an object is the last source of."""
        sort, parts = row
        price = self.found[number] + 1
        if sort == "record":
            for slot, other in parts:
                self.offer(price, other, ("slot", number, slot))
        elif sort == "map":
            for key, other in parts:
                if key in self.found:
                    self.offer(price + self.found[key], other, ("entry", number, key))
                else:
                    self.waiting.setdefault(key, []).append((number, other))
        for owner, other in self.waiting.get(number, []):
            self.offer(price + self.found[owner], other, ("entry", owner, number))


def cost_shown(net, number, value):
    """The cost of a reason that any value is, None if it is no reason for the object."""
    if not isinstance(value, tuple) or len(value) == 0:
        return None
    costs = {}
    used = {}
    for pair in value:
        if not is_pair(pair) or pair[0] in costs or net.led_to(pair[1]) != pair[0]:
            return None
        sources = sources_of(pair[1])
        if not all([source in costs for source in sources]):
            return None
        costs[pair[0]] = 1 + sum([costs[source] for source in sources])
        for source in sources:
            used[source] = True
    if value[-1][0] != number or not all([pair[0] in used for pair in value[:-1]]):
        return None
    return costs[number]


def is_pair(value):
    """Whether any value has the form of a pair (object, link)."""
    if not isinstance(value, tuple) or len(value) != 2:
        return False
    return is_integer(value[0]) and is_link(value[1])
