"""Section 17 a second time, slow and plain, in the words of the document."""
from itertools import combinations, product

from tests import plain


def fewest_cuts(shot, victims, fixed=()):
    """The least of the smallest sets of links, of all that there are."""
    loose = [link for link in plain.links(shot) if link not in fixed]
    for size in range(len(loose) + 1):
        # Combinations of ascending links come in ascending order.
        for chosen in combinations(loose, size):
            if not plain.alive(plain.without_links(shot, chosen)) & set(victims):
                return chosen
    return None


def sources(link):
    return {"root": (), "slot": link[1:2], "entry": link[1:]}[link[0]]


def leads_on(shot, number):
    """What an object leads on to, in one step."""
    return {plain.target(shot, link) for link in plain.links(shot) if number in sources(link)}


def mattering(shot, victims):
    """The entries that matter, ascending by (map, key)."""
    alive_victims = set(victims) & plain.alive(shot)
    found = []
    for link in plain.links(shot):
        if link[0] != "entry":
            continue
        led = {plain.target(shot, link)}
        while True:
            more = led.union(*[leads_on(shot, number) for number in led])
            if more == led:
                break
            led = more
        if led & alive_victims:
            found.append(link)
    return found


def choices(entries):
    return sorted(product(["map", "key"], repeat=len(entries)))


def net(shot, victims, choice):
    """(object or None, object) for each link that leads in the net of a choice."""
    entries = mattering(shot, victims)
    found = {}
    for link in plain.links(shot):
        if link[0] == "root":
            found[link] = (None, plain.target(shot, link))
        elif link[0] == "slot":
            found[link] = (link[1], plain.target(shot, link))
        elif link in entries:
            side = choice[entries.index(link)]
            found[link] = (link[1] if side == "map" else link[2], plain.target(shot, link))
    return found


def is_way(leads, ends, way):
    if len(way) == 0 or len(set(way)) < len(way) or any(link not in leads for link in way):
        return False
    if leads[way[0]][0] is not None or leads[way[-1]][1] not in ends:
        return False
    return all(leads[later][0] == leads[link][1] for link, later in zip(way, way[1:]))


def is_evidence(shot, victims, fixed, count, value):
    """Whether a tuple of tuples of tuples of links is evidence."""
    every = choices(mattering(shot, victims))
    ends = set(victims) & plain.alive(shot)
    if len(value) != len(every):
        return False
    for choice, part in zip(every, value):
        leads = net(shot, victims, choice)
        if not all(is_way(leads, ends, way) for way in part):
            return False
        if count is None:
            if len(part) != 1 or any(link not in fixed for link in part[0]):
                return False
        elif len(part) != count:
            return False
        for way, other in combinations(part, 2):
            if any(link in other and link not in fixed for link in way):
                return False
    return True


def is_cut(shot, victims, fixed, value):
    """Whether a tuple of links is a cut."""
    there = plain.links(shot)
    if any(link not in there or link in fixed for link in value):
        return False
    if list(value) != sorted(set(value)):
        return False
    return not plain.alive(plain.without_links(shot, value)) & set(victims)
