"""Deaths: what dies with objects and without links, what keeps an object, what grows."""
from crossheaps.nets import need_links, need_objects, net_of, sources_of
from crossheaps.snapshots import alive


def dies_with(snapshot, *numbers):
    """The ascending tuple of what is alive, but not if these objects are not there."""
    net = net_of(snapshot)
    need_objects(net, numbers)
    return lost(net.met({}), net.met({number: True for number in numbers}))


def dies_without(snapshot, *given):
    """The ascending tuple of what is alive, but not without these links."""
    net = net_of(snapshot)
    met = net.met({})
    need_links(net, met, given)
    return lost(met, net.without(given).met({}))


def lost(met, left):
    """The ascending tuple of the objects that were met, and are not left."""
    return tuple(sorted([number for number in met if number not in left]))


def keepers(snapshot, number):
    """The ascending tuple of the alive objects with which the object dies."""
    net = net_of(snapshot)
    need_objects(net, [number])
    table = Keeping(net)
    return tuple(sorted([other for other in table.bits if table.keeps(other, number)]))


def growth(first, second):
    """(how many, object) of what is alive in both, for the new objects that die with it."""
    last = max([number for number, _, _, _ in first[1]], default=-1)
    table = Keeping(net_of(second))
    fresh = [number for number in table.bits if number > last]
    found = []
    for number in alive(first):
        many = len([other for other in fresh if table.keeps(number, other)])
        if many > 0:
            found.append((-many, number))
    return tuple([(-less, number) for less, number in sorted(found)])


class Keeping:
    """Which alive objects die with which.

    Each alive object has a bit of its own; `masks` has, for each one, the bits of those with
    which it dies: its own one, and those with which each link to it goes. A link goes with
    whatever one of its sources dies with. Masks that begin with all bits, and lose what this
    forbids until nothing changes, keep just what no way around an object takes from them.
    """

    def __init__(self, net):
        met = net.met({})
        self.bits = {number: 1 << at for at, number in enumerate(met)}
        whole = (1 << len(met)) - 1
        self.masks = {number: whole for number in met}
        ways = {number: [] for number in met}
        for link, target in net.leads(met):
            ways[target].append(sources_of(link))
        while self.lessen(ways, whole):
            pass

    def lessen(self, ways, whole):
        """Takes away from the masks; returns whether one of them changed."""
        changed = False
        for number, bit in self.bits.items():
            mask = whole
            for sources in ways[number]:
                mask = mask & self.mask_of(sources)
            mask = mask | bit
            if self.masks[number] != mask:
                self.masks[number] = mask
                changed = True
        return changed

    def mask_of(self, sources):
        """The bits of the objects with which a link of these sources goes."""
        mask = 0
        for source in sources:
            mask = mask | self.masks[source]
        return mask

    def keeps(self, one, other):
        """Whether one of the objects is alive, and the other one dies with it."""
        return one in self.bits and other in self.bits and self.masks[other] & self.bits[one] != 0
