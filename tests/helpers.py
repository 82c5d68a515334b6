"""What several tests use."""
from crossheaps.errors import HeapError
from crossheaps.machine import Machine

# Values of every kind that the document names.
ANY = [
    None, True, False, -1, 10 ** 39, -10 ** 39, "", "a", "0", "let x = 1", (), (0,), ("#", 0),
    [], [0], [[1], {}], {}, {"a": 1}, {0: [None]}, ((((),),),),
]


def deep_value():
    """A value nested 30 deep."""
    value = 0
    for _ in range(15):
        value = [value]
        value = (value,)
    return value


ANY.append(deep_value())


def told(text, **policy):
    """The events of a script on a new machine."""
    return Machine(**policy).told(text)


def ended(machine, text):
    """(events, name of the error, its values) of a run; None, None without an error."""
    events = []
    try:
        for event in machine.run(text):
            events.append(event)
    except HeapError as error:
        return (events, type(error).__name__, tuple(vars(error).values()))
    return (events, None, None)


def fault(text, machine=None):
    """(word, row) of the fault with which a script ends, None without one."""
    _, name, values = ended(Machine() if machine is None else machine, text)
    if name is None:
        return None
    assert name == "Fault", (name, values)
    return values


def lines(*rows):
    return "\n".join(rows)


def raised(call, *values, **named):
    """(name of the error, what it keeps) of a call, None if it raises none of ours."""
    try:
        call(*values, **named)
    except HeapError as error:
        return (type(error).__name__, vars(error))
    return None
