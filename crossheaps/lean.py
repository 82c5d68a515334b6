"""Lean scripts, which let go of their variables early, and the least limit of a script."""
from crossheaps.flows import Flow
from crossheaps.graph import reach_of, roots_of
from crossheaps.machine import Machine

OPENERS = ("if", "repeat", "proc")


def lean(rows):
    """The rows with a drop wherever a local variable begins to be sure and idle."""
    flow = Flow(rows)
    found = []
    blocks = []
    for at, words in enumerate(rows):
        found.append(words)
        if words[0] in OPENERS:
            blocks.append(at)
        opener = blocks[-1] if len(blocks) > 0 else at
        if words[0] == "end":
            blocks.pop()
        found.extend([("drop", name) for name in spared_behind(flow, at, opener)])
    return tuple(found)


def spared_behind(flow, at, opener):
    """The names to drop behind a row; the opener is that of its block, if it has one."""
    word = flow.rows[at][0]
    bits = flow.spare(at + 1)
    if word == "proc":
        return flow.names_in(bits)
    if word == "end" and flow.rows[opener][0] != "repeat":
        return []
    # Both arms of an if begin behind the point ahead of it.
    ahead = opener if word == "else" else at
    return flow.names_in(bits & ~flow.spare(ahead))


def least_limit(text):
    """One more than the most objects that are reachable ahead of a creation of the script."""
    gauge = Gauge()
    work = Machine().begun(text)
    work.gauge = gauge
    work.finish()
    return gauge.limit


class Gauge:
    """The limit that would have been enough so far; it is asked ahead of each creation."""

    def __init__(self):
        self.limit = 0

    def measure(self, heap):
        # No more objects are reachable than are present.
        if len(heap.objects) >= self.limit:
            reach = reach_of(heap, roots_of(heap))
            self.limit = max(self.limit, len(reach) + 1)
