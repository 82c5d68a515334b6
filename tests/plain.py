"""Sections 13 to 16 a second time, slow and plain, in the words of the document."""
from itertools import permutations


# Sections 14 to 16.

def alive(shot):
    """The set of the objects in the reach of the roots."""
    roots, objects = shot
    found = {number for _, number in roots}
    while True:
        more = set()
        for number, _, sort, parts in objects:
            if number in found and sort == "record":
                more |= {other for _, other in parts}
            if number in found and sort == "map":
                more |= {other for key, other in parts if key in found and other is not None}
        if more <= found:
            return found
        found |= more


def links(shot):
    roots, objects = shot
    there = alive(shot)
    found = [("root", root) for root, _ in roots]
    for number, _, sort, parts in objects:
        if number in there and sort == "record":
            found += [("slot", number, slot) for slot, _ in parts]
        if number in there and sort == "map":
            found += [("entry", number, key) for key, other in parts
                      if key in there and other is not None]
    return tuple(sorted(found))


def target(shot, link):
    """The object to which a link leads."""
    roots, objects = shot
    if link[0] == "root":
        return dict(roots)[link[1]]
    parts, = [parts for number, _, _, parts in objects if number == link[1]]
    return dict(parts)[link[2]]


def without_objects(shot, gone):
    """The snapshot in which these objects are not there."""
    roots, objects = shot
    left = []
    for number, home, sort, parts in objects:
        if number in gone:
            continue
        if sort == "weak":
            parts = tuple(other for other in parts if other not in gone)
        elif sort == "map":
            parts = tuple(part for part in parts if part[0] not in gone and part[1] not in gone)
        else:
            parts = tuple(part for part in parts if part[1] not in gone)
        left.append((number, home, sort, parts))
    return (tuple(row for row in roots if row[1] not in gone), tuple(left))


def without_links(shot, gone):
    """The snapshot without these links."""
    roots, objects = shot
    words = {"record": "slot", "map": "entry"}
    left = []
    for number, home, sort, parts in objects:
        if sort in words:
            parts = tuple(part for part in parts if (words[sort], number, part[0]) not in gone)
        left.append((number, home, sort, parts))
    return (tuple(row for row in roots if ("root", row[0]) not in gone), tuple(left))


def dies_with(shot, *numbers):
    return tuple(sorted(alive(shot) - alive(without_objects(shot, numbers))))


def dies_without(shot, *given):
    return tuple(sorted(alive(shot) - alive(without_links(shot, given))))


def keepers(shot, number):
    return tuple(sorted(o for o in alive(shot) if number in dies_with(shot, o)))


def growth(first, second):
    new = {n for n in alive(second) if all(n > row[0] for row in first[1])}
    found = [(len(new & set(dies_with(second, o))), o) for o in alive(first) & alive(second)]
    return tuple(sorted((pair for pair in found if pair[0]), key=lambda row: (-row[0], row[1])))


def costs(shot):
    """The costs of all alive objects: the least solution, from above."""
    found = {}
    while True:
        before = dict(found)
        options = [(number, 1) for _, number in shot[0]]
        for number, _, sort, parts in shot[1]:
            for first, other in parts if sort in ("record", "map") else ():
                if number not in found or other is None:
                    continue
                if sort == "record":
                    options.append((other, found[number] + 1))
                elif first in found:
                    options.append((other, found[number] + found[first] + 1))
        for number, price in options:
            found[number] = min(price, found.get(number, price))
        if found == before:
            return found


def needs(link):
    """The objects that must have earlier pairs."""
    return {"root": link[2:], "slot": link[1:2], "entry": link[1:]}[link[0]]


def is_reason(shot, number, pairs):
    """Whether pairs of objects and links of the snapshot are a reason."""
    objects = [pair[0] for pair in pairs]
    if not pairs or objects[-1] != number or len(set(objects)) < len(objects):
        return False
    for at, (other, link) in enumerate(pairs):
        if target(shot, link) != other or not set(needs(link)) <= set(objects[:at]):
            return False
        later = [used for _, further in pairs[at + 1:] for used in needs(further)]
        if at < len(pairs) - 1 and other not in later:
            return False
    return True


def cost_of(pairs):
    """The cost of the last object by the links of a reason alone."""
    found = {}
    for other, link in pairs:
        found[other] = 1 + sum(found[source] for source in needs(link))
    return found[pairs[-1][0]]


def all_reasons(shot, number):
    """Every reason for an object of a small snapshot."""
    pairs = [(target(shot, link), link) for link in links(shot)]
    many = len(shot[1])
    return [chosen for size in range(1, many + 1) for chosen in permutations(pairs, size)
            if is_reason(shot, number, chosen)]


# Section 13.

def partner(rows, at):
    """The else or end of the if, repeat, proc or else at a row."""
    depth = 0
    while True:
        at += 1
        word = rows[at][0]
        if depth == 0 and word in ("else", "end"):
            return at
        depth += (word in ("if", "repeat", "proc")) - (word == "end")


def regions(rows):
    """(first row, row behind the last one, parameters) of the script and of each procedure."""
    found = [(0, len(rows), ())]
    for at, words in enumerate(rows):
        if words[0] == "proc":
            found.append((at + 1, partner(rows, at), words[2:]))
    return found


def steps_from(rows, at, last):
    """The points to which the row at a point leads; none behind the last row of its region."""
    if at == last:
        return []
    word = rows[at][0]
    if word == "if":
        return [at + 1, partner(rows, at) + 1]
    if word == "else" or word == "proc":
        return [partner(rows, at) + 1]
    if word == "repeat":
        return [at + 1, partner(rows, at) + 1]
    opener = [head for head in range(at) if rows[head][0] == "repeat"
              and word == "end" and partner(rows, head) == at]
    return [at + 1] + [head + 1 for head in opener]


def uses(words, name):
    word = words[0]
    if word in ("proc", "end", "else"):
        return False
    if word == "let":
        told = () if words[3] in ("record", "map") else words[3:]
    elif word == "do":
        told = words[2:]
    else:
        told = words
    return name in told or any(part.startswith(name + ".") for part in told)


def unsure_points(rows, region, name):
    """The points to which a way from the beginning of the region comes with the name unset."""
    first, last, names = region
    ahead = [(first, name in names)]
    met = set()
    while ahead:
        at, there = ahead.pop()
        if (at, there) in met:
            continue
        met.add((at, there))
        if at == last:
            continue
        if rows[at][0] == "let" and rows[at][1] == name:
            there = True
        if rows[at] == ("drop", name):
            there = False
        ahead += [(step, there) for step in steps_from(rows, at, last)]
    return {at for at, there in met if not there}


def is_idle(rows, region, point, name):
    ahead = [point]
    met = set()
    while ahead:
        at = ahead.pop()
        if at in met or at == region[1]:
            continue
        met.add(at)
        if uses(rows[at], name):
            return False
        if rows[at][0] != "let" or rows[at][1] != name:
            ahead += steps_from(rows, at, region[1])
    return True


def lean(rows):
    """The lean rows: for each place and name, whether a drop is put in there."""
    names = sorted({words[1] for words in rows if words[0] == "let" and words[1].islower()}
                   | {name for words in rows if words[0] == "proc" for name in words[2:]})
    put = {}
    for region in regions(rows):
        inner = [point for point in range(region[0], region[1] + 1)
                 if region[0] > 0 or not in_procedure(rows, point)]
        for name in names:
            unsure = unsure_points(rows, region, name)
            spare = {point: point not in unsure and is_idle(rows, region, point, name)
                     for point in inner}
            for at in places(rows, region, inner, spare):
                put.setdefault(at, []).append(name)
    found = []
    for at, words in enumerate(rows):
        found += [words] + [("drop", name) for name in put.get(at, [])]
    return tuple(found)


def in_procedure(rows, point):
    """Whether a point is within a procedure, its beginning and its end too."""
    return any(first <= point <= last for first, last, _ in regions(rows)[1:])


def places(rows, region, inner, spare):
    """The rows behind which a variable that is sure and idle at the points is dropped."""
    found = []
    if region[0] > 0 and spare[region[0]]:
        found.append(region[0] - 1)
    for at in inner:
        if at == region[1] or rows[at][0] == "proc":
            continue
        word = rows[at][0]
        if word not in ("if", "else", "repeat", "end"):
            if spare[at + 1] and not spare[at]:
                found.append(at)
        if word in ("if", "repeat") and spare[at + 1] and not spare[at]:
            found.append(at)
        last = partner(rows, at) if word in ("if", "repeat") else None
        if word == "if" and rows[last][0] == "else" and spare[last + 1] and not spare[at]:
            found.append(last)
        if word == "repeat" and spare[last + 1] and not spare[last]:
            found.append(last)
    return found
