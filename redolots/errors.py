"""All errors of the program.

Each error stands directly under RedoError, and its message consists of its attributes.
"""


class RedoError(ValueError):
    """The base class of all errors of the program."""


class InvalidRule(RedoError):
    """A restart rule cannot be made, or is not of the kind that is needed."""


class UnknownPlace(RedoError):
    """A place is not reachable."""


class NoLog(RedoError):
    """No copy log leads to the goal."""


class NotRenaming(RedoError):
    """Two images are not a rename pair."""


class NothingToUndo(RedoError):
    """There is no deed that can be undone."""


class NothingToRedo(RedoError):
    """There is no deed that can be redone."""


class InvalidLine(RedoError):
    """The script is wrong (-1), or its line with the index at is."""

    def __init__(self, at):
        self.at = at


class InvalidRun(RedoError):
    """The step with the index at is not possible."""

    def __init__(self, at):
        self.at = at


class InvalidGoal(RedoError):
    """The goal is wrong (-1), or its entry with the index at is."""

    def __init__(self, at):
        self.at = at


class InvalidDeed(RedoError):
    """The item with the index at is not a deed."""

    def __init__(self, at):
        self.at = at


class NotPlain(RedoError):
    """The line with the index at is not a copy with the empty guard."""

    def __init__(self, at):
        self.at = at


class NotCareful(RedoError):
    """The line with the index at is not a move onto a block that is known to be empty."""

    def __init__(self, at):
        self.at = at


class IdleLine(RedoError):
    """The line with the index at changes nothing in the undisturbed run."""

    def __init__(self, at):
        self.at = at


class NotAllowed(RedoError):
    """The restart rule does not allow what was asked for with the number at."""

    def __init__(self, at):
        self.at = at


class InvalidImage(RedoError):
    """The image is wrong (-1), or its entry for the block is."""

    def __init__(self, block):
        self.block = block


class InvalidText(RedoError):
    """The line of text with this number, counted from 1, is wrong."""

    def __init__(self, line):
        self.line = line


class TooMany(RedoError):
    """A search would go beyond its limit."""

    def __init__(self, limit):
        self.limit = limit


class TwoRoots(RedoError):
    """A group has several root sets; first and second are the two least."""

    def __init__(self, first, second):
        self.first = first
        self.second = second


class NotARoot(RedoError):
    """The block is not in the root set of its group."""

    def __init__(self, block):
        self.block = block


class Unsettled(RedoError):
    """The block has no settled number."""

    def __init__(self, block):
        self.block = block


class NoSafeLog(RedoError):
    """The goal is not safe: the number value is not at home."""

    def __init__(self, value):
        self.value = value


class NotAnchored(RedoError):
    """No kept block holds the value."""

    def __init__(self, value):
        self.value = value


class NoPlan(RedoError):
    """There is no plan, for this reason."""

    def __init__(self, reason):
        self.reason = reason


class Undecided(RedoError):
    """The program does not decide whether there is a plan; these are the rings."""

    def __init__(self, rings):
        self.rings = rings


class InvalidMost(RedoError):
    """The value is no number of lines that may be pending."""

    def __init__(self, value):
        self.value = value
