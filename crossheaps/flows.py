"""Ways through a script: where its variables are surely set, and where they are idle.

Point number n is ahead of row n; the last point is behind all rows. So an arm, a body or a
procedure ends at the point ahead of its else or end, and begins at the one behind its first
row. A set of variables is an integer with a bit for each of them.
"""
from crossheaps.forms import is_local
from crossheaps.scripts import partners_in

# Where the words begin that use variables.
USES = {"let": 3, "do": 2}


class Flow:
    """The local variables of rows that check accepts, point by point.

    `ways` has the points to which each row leads. `sure` has, for each point, the variables
    that are set on every way to it, `live` those that are used on some way from it on, ahead
    of an assignment.
    """

    def __init__(self, rows):
        self.rows = rows
        self.names = local_names(rows)
        self.bits = {name: 1 << at for at, name in enumerate(self.names)}
        partners = partners_in(rows)
        self.ways = [ways_of(rows, partners, at) for at in range(len(rows))]
        self.sure = self.begun()
        self.live = [0] * (len(rows) + 1)
        while self.go_on():
            pass
        while self.go_back():
            pass

    def bits_of(self, words):
        """The variables among the words."""
        found = 0
        for word in words:
            found = found | self.bits.get(word, 0)
        return found

    def begun(self):
        """All variables for each point, but for the beginnings of the script and of procedures."""
        sure = [self.bits_of(self.names)] * (len(self.rows) + 1)
        sure[0] = 0
        for at, words in enumerate(self.rows):
            if words[0] == "proc":
                sure[at + 1] = self.bits_of(words[2:])
        return sure

    def go_on(self):
        """Takes from each point what is not set on a way to it; returns whether that was any."""
        changed = False
        for at, words in enumerate(self.rows):
            found = self.sure[at]
            if words[0] == "let":
                found = found | self.bits_of([words[1]])
            elif words[0] == "drop":
                found = found & ~self.bits_of([words[1]])
            for point in self.ways[at]:
                if self.sure[point] & ~found != 0:
                    self.sure[point] = self.sure[point] & found
                    changed = True
        return changed

    def go_back(self):
        """Adds to each point what is used behind it; returns whether that was any."""
        changed = False
        for at, words in reversed(list(enumerate(self.rows))):
            found = 0
            for point in self.ways[at]:
                found = found | self.live[point]
            if words[0] == "let":
                found = found & ~self.bits_of([words[1]])
            found = found | self.bits_of(used_by(words))
            if found != self.live[at]:
                self.live[at] = found
                changed = True
        return changed

    def spare(self, point):
        """The variables that are sure and idle at a point."""
        return self.sure[point] & ~self.live[point]

    def names_in(self, bits):
        """The ascending names of the variables of a set."""
        found = []
        while bits != 0:
            lowest = bits & -bits
            found.append(self.names[lowest.bit_length() - 1])
            bits = bits & ~lowest
        return found


def local_names(rows):
    """The ascending names of the variables that the rows set, but for global ones."""
    found = {}
    for words in rows:
        if words[0] == "let" and is_local(words[1]):
            found[words[1]] = True
        elif words[0] == "proc":
            for name in words[2:]:
                found[name] = True
    return sorted(list(found))


def used_by(words):
    """The words of a row that use the values of variables, beside words that are no names."""
    if words[0] == "proc" or "record" in words[3:4]:
        return []
    return [word.split(".")[0] for word in words[USES.get(words[0], 0):]]


def ways_of(rows, partners, at):
    """The points to which a row leads."""
    word = rows[at][0]
    if word in ("if", "repeat"):
        return [at + 1, partners[at] + 1]
    if word in ("else", "proc"):
        return [partners[at] + 1]
    if word != "end":
        return [at + 1]
    opener = partners[at]
    if rows[opener][0] == "repeat":
        return [opener + 1, at + 1]
    # A procedure leads nowhere behind its end.
    return [] if rows[opener][0] == "proc" else [at + 1]
