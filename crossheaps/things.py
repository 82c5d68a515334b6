"""The objects of a heap, and the values that they hold.

A value is None, an integer, or ("#", number) for an object.
"""

OLD = 2


class Thing:
    """One object.

    `entries` has the values of a map by the numbers of their keys. `weaks` and `maps` are dicts
    of True: the weak objects whose target this is, and the maps of which this is a key.
    """

    def __init__(self, number, home, kind):
        self.number = number
        self.home = home
        self.kind = kind
        self.slots = []
        self.entries = {}
        self.target = None
        self.closing = None
        self.queued = False
        self.pins = 0
        self.holds = 0
        self.count = 0
        self.age = 0
        self.proxy = None
        self.weaks = {}
        self.maps = {}


def is_object(value):
    return isinstance(value, tuple)


def is_integer(value):
    return isinstance(value, int) and not isinstance(value, bool)


def object_value(number):
    return ("#", number)


def closes(thing):
    """Whether the object has a closing procedure that is still to come."""
    return thing.closing is not None and not thing.queued


def references_of(thing):
    """The numbers of the objects that it has references to, as often as it has them."""
    if thing.kind == "record":
        return [value[1] for value in thing.slots if isinstance(value, tuple)]
    return [value[1] for value in thing.entries.values() if isinstance(value, tuple)]


def shown_value(value):
    """How a value is told."""
    if isinstance(value, tuple):
        return f"#{value[1]}"
    return "none" if value is None else str(value)


def twin_of(thing):
    """An independent object that is the same."""
    twin = Thing(thing.number, thing.home, thing.kind)
    twin.slots = list(thing.slots)
    twin.entries = dict(thing.entries)
    twin.target = thing.target
    twin.closing = thing.closing
    twin.queued = thing.queued
    twin.pins = thing.pins
    twin.holds = thing.holds
    twin.count = thing.count
    twin.age = thing.age
    twin.proxy = thing.proxy
    twin.weaks = dict(thing.weaks)
    twin.maps = dict(thing.maps)
    return twin
