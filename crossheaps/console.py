"""A console: lines in, answers out."""
from crossheaps.cuts import fewest_cuts
from crossheaps.deaths import dies_with, growth, keepers
from crossheaps.errors import BadLine, NoMark
from crossheaps.forms import whole_of
from crossheaps.machine import Machine
from crossheaps.reasons import reason
from crossheaps.snapshots import alive, snapshot

MOST_DIGITS = 9
RUN = "run "


class Console:
    """A machine, and the snapshot that was marked last."""

    def __init__(self, *, young=None, start=None, pace=None, limit=None):
        self.machine = Machine(young=young, start=start, pace=pace, limit=limit)
        self.marked = None

    def say(self, line):
        """The answer to a line, which may be any value."""
        if not isinstance(line, str) or "\n" in line:
            raise BadLine(line)
        if line.startswith(RUN):
            return shown_events(self.machine.told(line[len(RUN):].replace("; ", "\n")))
        word, *rest = line.split(" ")
        numbers = [whole_of(part, MOST_DIGITS) for part in rest]
        if None in numbers or not fits(word, len(numbers)):
            raise BadLine(line)
        answer = ANSWERS[word]
        return answer(self, numbers)


def fits(word, many):
    """Whether a line of this word has so many numbers."""
    if word == "cut":
        return many > 0
    return word in ANSWERS and many == (1 if word in ASKING else 0)


def shown_events(events):
    shown = [" ".join([str(part) for part in event]) for event in events]
    return "-" if len(shown) == 0 else ", ".join(shown)


def joined(words):
    return "-" if len(words) == 0 else " ".join(words)


def shown_numbers(numbers):
    return joined([str(number) for number in numbers])


def shown_link(link):
    if link[0] == "root":
        return link[1].replace(" ", ":")
    return f"{link[1]}.{link[2]}" if link[0] == "slot" else f"{link[1]}[{link[2]}]"


def why(console, numbers):
    pairs = reason(snapshot(console.machine), numbers[0])
    if pairs is None:
        return "-"
    return joined([f"{number}<{shown_link(link)}" for number, link in pairs])


def dies(console, numbers):
    return shown_numbers(dies_with(snapshot(console.machine), numbers[0]))


def kept_by(console, numbers):
    return shown_numbers(keepers(snapshot(console.machine), numbers[0]))


def living(console, _):
    return shown_numbers(alive(snapshot(console.machine)))


def cut(console, numbers):
    found = fewest_cuts(snapshot(console.machine), tuple(numbers))
    return "none" if found is None else joined([shown_link(link) for link in found])


def paged(console, _):
    return joined([f"{page}:{kind}:{len(cells) - cells.count(None)}"
                   for page, kind, cells in console.machine.pages])


def mark(console, _):
    console.marked = snapshot(console.machine)
    return "done"


def grown(console, _):
    if console.marked is None:
        raise NoMark()
    found = growth(console.marked, snapshot(console.machine))
    return joined([f"{many}:{number}" for many, number in found])


# What answers a line, by its first word; those that ask for a single number.
ANSWERS = {
    "why": why,
    "dies": dies,
    "keepers": kept_by,
    "alive": living,
    "cut": cut,
    "pages": paged,
    "mark": mark,
    "growth": grown,
}
ASKING = {"why": True, "dies": True, "keepers": True}
