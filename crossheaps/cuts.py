"""Cuts: the fewest links without which victims die, and the evidence for that."""
from crossheaps.errors import TooMany
from crossheaps.nets import is_link, need_links, need_objects, net_of, sources_of
from crossheaps.snapshots import is_ascending
from crossheaps.ways import START, Ways

MOST_ENTRIES = 4
MOST_LINKS = 120
# The sides of an entry, in their order, and where they stand in it.
SIDES = {"key": 2, "map": 1}


def fewest_cuts(snapshot, victims, fixed=()):
    """The least tuple of as few links as possible without which no victim is alive."""
    cutting = Cutting(snapshot, victims, fixed)
    return fewest_of([cutting.ways_in(choice) for choice in cutting.choices])


def evidence(snapshot, victims, fixed=()):
    """For each choice, ways that show that there are no fewer links, or no cut at all."""
    cutting = Cutting(snapshot, victims, fixed)
    nets = [cutting.ways_in(choice) for choice in cutting.choices]
    cut = fewest_of(nets)
    many = 1 if cut is None else len(cut)
    return tuple([ways.shown(many) for ways in nets])


def fewest_of(nets):
    """The least of the fewest links that cut all ways in one of the nets.

    Without a cut's links, of each entry beyond them that leads to what is not alive, the map or
    the key is not alive. So it cuts all ways in the net of the choice that names these; and
    whatever cuts all ways in the net of a choice is a cut.
    """
    best = None
    for ways in nets:
        found = ways.fewest(None if best is None else len(best))
        if found is None:
            continue
        if best is None or (len(found), found) < (len(best), best):
            best = found
    return best


def shows_cut(snapshot, victims, fixed, value):
    """Whether any value is an ascending tuple of links without which no victim is alive."""
    cutting = Cutting(snapshot, victims, fixed)
    return cutting.is_cut(value)


def shows_evidence(snapshot, victims, fixed, count, value):
    """Whether any value is evidence for a tuple of so many links, or for None."""
    cutting = Cutting(snapshot, victims, fixed)
    if not isinstance(value, tuple) or len(value) != len(cutting.choices):
        return False
    for choice, part in zip(cutting.choices, value):
        if not cutting.is_part(choice, count, part):
            return False
    return True


class Cutting:
    """What is asked: the links, those that lead on to alive victims, and those that are fixed.

    `targets` tells for each link to what it leads, `ends` are the alive victims. `simple` has
    the roots and slots that lead on to them, `entries` the entries that matter, ascending.
    """

    def __init__(self, snapshot, victims, fixed):
        self.net = net_of(snapshot)
        need_objects(self.net, victims)
        met = self.net.met({})
        need_links(self.net, met, fixed)
        self.fixed = {link: True for link in fixed}
        leads = self.net.leads(met)
        self.targets = {link: target for link, target in leads}
        self.ends = {number: True for number in victims if number in met}
        useful = leading_to(leads, self.ends)
        self.simple = [link for link in useful if link[0] != "entry"]
        self.entries = [link for link in useful if link[0] == "entry"]
        if len(self.entries) > MOST_ENTRIES:
            raise TooMany(len(self.entries))
        if len(leads) > MOST_LINKS:
            raise TooMany(len(leads))
        self.choices = choices_of(len(self.entries))

    def arcs_in(self, choice):
        """The arcs of the net of a choice, as (link, object from which, object to which)."""
        found = []
        for link in self.simple:
            found.append((link, START if link[0] == "root" else link[1], self.targets[link]))
        for side, link in zip(choice, self.entries):
            found.append((link, link[SIDES[side]], self.targets[link]))
        return found

    def ways_in(self, choice):
        """The ways in the net of a choice, of which none is found yet."""
        arcs = [(link, source, target, link in self.fixed)
                for link, source, target in self.arcs_in(choice)]
        return Ways(arcs, self.ends)

    def is_cut(self, value):
        if not isinstance(value, tuple):
            return False
        if not all([is_link(link) and link in self.targets for link in value]):
            return False
        if not is_ascending(value) or any([link in self.fixed for link in value]):
            return False
        met = self.net.without(value).met({})
        return not any([number in met for number in self.ends])

    def is_part(self, choice, count, value):
        """Whether any value is the part of a choice in evidence for so many links, or for None."""
        if not isinstance(value, tuple) or len(value) != (1 if count is None else count):
            return False
        leads = {link: (source, target) for link, source, target in self.arcs_in(choice)}
        used = {}
        for way in value:
            if not self.is_way(leads, way):
                return False
            loose = [link for link in way if link not in self.fixed]
            if any([count is None or link in used for link in loose]):
                return False
            for link in loose:
                used[link] = True
        return True

    def is_way(self, leads, value):
        """Whether any value is a way by what leads in a net."""
        if not isinstance(value, tuple):
            return False
        number = START
        used = {}
        for link in value:
            if not is_link(link) or link not in leads or link in used or leads[link][0] != number:
                return False
            used[link] = True
            number = leads[link][1]
        return number in self.ends


def leading_to(leads, ends):
    """Those of the links that lead on to the ends, ascending; leads are (link, object)."""
    needs = {}
    for link, target in leads:
        needs.setdefault(target, []).extend(list(sources_of(link)))
    met = {}
    ahead = list(ends)
    while len(ahead) > 0:
        number = ahead.pop()
        if number not in met:
            met[number] = True
            ahead.extend(needs[number])
    return [link for link, target in leads if target in met]


def choices_of(many):
    """The choices for so many entries, ascending."""
    found = [()]
    for _ in range(many):
        found = [choice + (side,) for choice in found for side in SIDES]
    return found
