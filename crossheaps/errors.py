"""The errors of the package, all directly below HeapError."""


class HeapError(ValueError):
    """What all errors of this package derive from."""


class BadRow(HeapError):
    """A row of a script that has no form."""

    def __init__(self, row):
        super().__init__(f"row {row!r} has no form")
        self.row = row


class BadBlock(HeapError):
    """A row that does not fit the blocks around it, or a block without an end."""

    def __init__(self, row):
        super().__init__(f"row {row!r} does not fit the blocks")
        self.row = row


class Twice(HeapError):
    """A procedure of a name that an earlier row has."""

    def __init__(self, row):
        super().__init__(f"row {row!r} names a procedure that is there")
        self.row = row


class NoProcedure(HeapError):
    """A row that names a procedure which is not there."""

    def __init__(self, row):
        super().__init__(f"row {row!r} names no procedure")
        self.row = row


class WrongCount(HeapError):
    """A row whose number of values is not that of the parameters."""

    def __init__(self, row):
        super().__init__(f"row {row!r} has another number of values")
        self.row = row


class BadPolicy(HeapError):
    """A part of a policy that is neither None nor an integer in its bounds."""

    def __init__(self, word):
        super().__init__(f"the policy has no such {word!r}")
        self.word = word


class Fault(HeapError):
    """A statement that cannot be done."""

    def __init__(self, word, row):
        super().__init__(f"{word!r} at row {row!r}")
        self.word = word
        self.row = row


class NoObject(HeapError):
    """A value that is not the number of a fitting object."""

    def __init__(self, value):
        super().__init__(f"{value!r} is no such object")
        self.value = value


class NoLink(HeapError):
    """A value that is not a link of the snapshot."""

    def __init__(self, value):
        super().__init__(f"{value!r} is no link")
        self.value = value


class TooMany(HeapError):
    """More entries or links than a cut is looked for in."""

    def __init__(self, count):
        super().__init__(f"{count!r} are too many")
        self.count = count


class BadText(HeapError):
    """A text that is not that of a snapshot or a state."""

    def __init__(self, row):
        super().__init__(f"row {row!r} of the text is wrong")
        self.row = row


class NoMark(HeapError):
    """Growth is asked for without a mark."""

    def __init__(self):
        super().__init__("there is no mark")


class BadLine(HeapError):
    """A line that the console does not know."""

    def __init__(self, line):
        super().__init__(f"{line!r} is no line of the console")
        self.line = line
