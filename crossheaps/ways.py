"""Ways through the net of a choice, in which each entry hangs on its map or its key alone."""

# Where roots lead from.
START = -1


class Ways:
    """Such a net, and the ways through it that were found so far.

    An arc is (link, object that it leads from, object to which it leads, whether it is fixed).
    `loads` tells how many ways go by each arc; one that is not fixed has room for a single way.
    `ends` are the alive victims.
    """

    def __init__(self, arcs, ends):
        self.arcs = arcs
        self.ends = ends
        self.loads = [0] * len(arcs)
        self.many = 0
        self.leaving = {}
        self.coming = {}
        for at, (_, source, target, _) in enumerate(arcs):
            self.leaving.setdefault(source, []).append(at)
            self.coming.setdefault(target, []).append(at)
        self.fixed_way = self.way_by([arc[3] for arc in arcs])

    def way_by(self, usable):
        """A way by the arcs that are usable, as their positions; None without one."""
        came = {START: None}
        ahead = [START]
        while len(ahead) > 0:
            number = ahead.pop()
            if number in self.ends:
                return self.led_by(came, number)
            for at in self.leaving.get(number, []):
                target = self.arcs[at][2]
                if usable[at] and target not in came:
                    came[target] = at
                    ahead.append(target)
        return None

    def led_by(self, came, end):
        found = []
        number = end
        while number != START:
            found.append(came[number])
            number = self.arcs[came[number]][1]
        return found[::-1]

    def onward(self, number):
        """Where one more way may go on from an object, as (object, arc, change of its load).

        That is along an arc with room, or back along one, whose way then goes on otherwise.
        """
        found = []
        for at in self.leaving.get(number, []):
            _, _, target, is_fixed = self.arcs[at]
            if is_fixed or self.loads[at] == 0:
                found.append((target, at, 1))
        for at in self.coming.get(number, []):
            if self.loads[at] > 0:
                found.append((self.arcs[at][1], at, -1))
        return found

    def widen(self):
        """Finds one more way; returns whether there is one."""
        came = {START: None}
        ahead = [START]
        while len(ahead) > 0:
            number = ahead.pop()
            if number in self.ends:
                self.load(came, number)
                return True
            for other, at, change in self.onward(number):
                if other not in came:
                    came[other] = (number, at, change)
                    ahead.append(other)
        return False

    def load(self, came, end):
        self.many += 1
        number = end
        while number != START:
            number, at, change = came[number]
            self.loads[at] += change

    def fewest(self, most):
        """The least tuple of as few links as possible that no way leaves out.

        None if there is none, or if it has more than so many links (None for any number).
        """
        if self.fixed_way is not None:
            return None
        while most is None or self.many <= most:
            if not self.widen():
                return self.least_cut()
        return None

    def least_cut(self):
        """The least tuple of just one link of each way that no way leaves out.

        Such links lead from a side of the start to a side of the ends. Each of them has a way,
        and nothing leads onward from the side of the start: else there would be a cheaper cut
        or none. So a link is taken if its own two objects can still lie on these sides.
        """
        inside = self.reached(START, {})
        outside = {number: True for number in self.ends}
        loaded = [arc for arc, load in zip(self.arcs, self.loads) if load > 0 and not arc[3]]
        found = []
        for link, source, target, _ in sorted(loaded):
            if target in inside:
                continue
            further = self.reached(source, inside)
            if target in further or any([number in outside for number in further]):
                continue
            inside.update(further)
            outside[target] = True
            found.append(link)
        return tuple(found)

    def reached(self, start, known):
        """What is led to from the start, onward, but for what is known; as a dict of True."""
        found = {}
        ahead = [start]
        while len(ahead) > 0:
            number = ahead.pop()
            if number not in found and number not in known:
                found[number] = True
                ahead.extend([step[0] for step in self.onward(number)])
        return found

    def links_of(self, way):
        return tuple([self.arcs[at][0] for at in way])

    def shown(self, many):
        """So many of the ways that were found, as tuples of links."""
        if self.fixed_way is not None:
            return (self.links_of(self.fixed_way),) * many
        left = list(self.loads)
        found = []
        for _ in range(many):
            way = self.way_by([load > 0 for load in left])
            for at in way:
                left[at] -= 1
            found.append(self.links_of(way))
        return tuple(found)
