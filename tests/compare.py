"""Runs the same on a machine and on the model, and compares what both tell and show."""
from crossheaps.errors import HeapError
from crossheaps.machine import Machine
from tests.model import Model


def shown(machine):
    """The state of a machine in the form of the model's."""
    objs = []
    for number in machine.present:
        if machine[number][0] == "counted":
            more = (machine.count_of(number), machine.proxy_of(number))
        else:
            more = (machine.age_of(number), machine.place_of(number))
        objs.append((number, machine[number], more))
    return {
        "objs": objs,
        "variables": machine.variables,
        "queue": machine.queue,
        "candidates": machine.candidates,
        "kept": machine.kept,
        "cycle": machine.cycle,
        "pages": machine.pages,
        "next": machine.next_number,
        "reach": machine.reach(),
    }


def told_by(machine, text):
    """(events, name of the error, what it keeps) of a run; the latter None without an error."""
    events = []
    try:
        for event in machine.run(text):
            events.append(event)
    except HeapError as error:
        return (tuple(events), type(error).__name__, tuple(vars(error).values()))
    return (tuple(events), None, None)


def told_by_model(model, text):
    events, wrong = model.run(text)
    if wrong is None:
        return (events, None, None)
    return (events, wrong.name, wrong.told)


class Pair:
    """A machine and a model of the same policy."""

    def __init__(self, **policy):
        self.machine = Machine(**policy)
        self.model = Model(**policy)

    def run(self, text):
        """Returns (what the machine told, what the model told)."""
        return (told_by(self.machine, text), told_by_model(self.model, text))

    def states(self):
        return (shown(self.machine), self.model.state())
