"""Deaths: what dies with objects and without links, what keeps an object, what grows."""
from crossheaps.nets import alive_arcs, arcs_of, met_by, need_links, need_objects
from crossheaps.snapshots import alive


def dies_with(snapshot, *numbers):
    """The ascending tuple of what is alive, but not if these objects are not there."""
    need_objects(snapshot, numbers)
    gone = {number: True for number in numbers}
    arcs = arcs_of(snapshot)
    return lost(arcs, [arc for arc in arcs if arc[2] not in gone])


def dies_without(snapshot, *given):
    """The ascending tuple of what is alive, but not without these links."""
    arcs = arcs_of(snapshot)
    need_links(alive_arcs(arcs), given)
    gone = {link: True for link in given}
    return lost(arcs, [arc for arc in arcs if arc[0] not in gone])


def lost(arcs, left):
    """The ascending tuple of the objects to which arcs lead, but not those that are left."""
    met = met_by(left)
    return tuple(sorted([number for number in met_by(arcs) if number not in met]))


def keepers(snapshot, number):
    """The ascending tuple of the alive objects with which the object dies."""
    need_objects(snapshot, [number])
    table = Keeping(arcs_of(snapshot))
    return tuple(sorted([other for other in table.bits if table.keeps(other, number)]))


def growth(first, second):
    """(how many, object) of what is alive in both, for the new objects that die with it."""
    last = max([number for number, _, _, _ in first[1]], default=-1)
    table = Keeping(arcs_of(second))
    fresh = [number for number in table.bits if number > last]
    found = []
    for number in alive(first):
        many = len([other for other in fresh if table.keeps(number, other)])
        if many > 0:
            found.append((-many, number))
    return tuple([(-less, number) for less, number in sorted(found)])


class Keeping:
    """Which alive objects die with which.

    Each alive object has a bit of its own; `masks` has, for each one, the bits of those with
    which it dies: its own one, and those with which each link to it goes. A link goes with
    whatever one of its sources dies with. Masks that begin with all bits, and lose what this
    forbids until nothing changes, keep just what no way around an object takes from them.
    """

    def __init__(self, arcs):
        met = met_by(arcs)
        self.bits = {number: 1 << at for at, number in enumerate(met)}
        whole = (1 << len(met)) - 1
        self.masks = {number: whole for number in met}
        ways = {number: [] for number in met}
        for _, sources, target in alive_arcs(arcs):
            ways[target].append(sources)
        while self.lessen(ways, whole):
            pass

    def lessen(self, ways, whole):
        """Takes away from the masks; returns whether one of them changed."""
        changed = False
        for number, bit in self.bits.items():
            mask = whole
            for sources in ways[number]:
                mask = mask & self.mask_of(sources)
            mask = mask | bit
            if self.masks[number] != mask:
                self.masks[number] = mask
                changed = True
        return changed

    def mask_of(self, sources):
        """The bits of the objects with which a link of these sources goes."""
        mask = 0
        for source in sources:
            mask = mask | self.masks[source]
        return mask

    def keeps(self, one, other):
        """Whether one of the objects is alive, and the other one dies with it."""
        return one in self.bits and other in self.bits and self.masks[other] & self.bits[one] != 0
