"""The simple restart rules (points 11, 13 and 17)."""
from redolots.errors import InvalidRule


class Rule:
    """The script is executed once; the base class of all rules."""

    RESTART = -1
    # Either takes the rules for which this is true.
    SIMPLE = True

    def first_state(self):
        """The state at the beginning."""
        return (0,)

    def steps(self, state, length):
        """The list of the steps that are possible in the state."""
        return _ahead(state, length)

    def is_end(self, state, length):
        """True if a run may end in the state."""
        return state == (length,)

    def further(self, position):
        """The steps that a simple rule lists behind the step to the next line."""
        return []

    def __or__(self, other):
        return Either(self, other)

    def __str__(self):
        return "once"

    @staticmethod
    def is_restart(step):
        """True if the step executes no line."""
        return step[0] == Rule.RESTART


class FromTop(Rule):
    """A crash restarts the script from the top."""

    def steps(self, state, length):
        """The list of the steps that are possible in the state."""
        return _ahead(state, length) + self.further(state[0])

    def further(self, position):
        """The restart from the top."""
        return [(self.RESTART, (0,))] if position > 0 else []

    def __str__(self):
        return "top"


class FromMark(Rule):
    """A crash restarts the script from any earlier position."""

    def steps(self, state, length):
        """The list of the steps that are possible in the state."""
        return _ahead(state, length) + self.further(state[0])

    def further(self, position):
        """The restarts from the positions below this one."""
        return [(self.RESTART, (mark,)) for mark in range(position)]

    def __str__(self):
        return "mark"


class FromPoints(Rule):
    """A crash restarts the script from the newest checkpoint, or from any that it has passed."""

    def __init__(self, points, *, newest=True):
        if not are_ascending(points, 1, 99):
            raise InvalidRule()
        self.points = points
        self.newest = newest

    def steps(self, state, length):
        """The list of the steps that are possible in the state."""
        return _ahead(state, length) + self.further(state[0])

    def further(self, position):
        """The restarts from checkpoints."""
        passed = [point for point in (0, *self.points) if point <= position]
        if self.newest:
            passed = passed[-1:]
        return [(self.RESTART, (point,)) for point in passed if point < position]

    def __str__(self):
        if self.newest:
            return f"points{_listed(self.points)}"
        return f"anypoint{_listed(self.points)}"


class Late(Rule):
    """Lines that were executed before may be executed once more at any time."""

    def __init__(self, lines=None):
        if lines is not None and not are_ascending(lines, 0, 99):
            raise InvalidRule()
        self.lines = lines

    def steps(self, state, length):
        """The list of the steps that are possible in the state."""
        return _ahead(state, length) + self.further(state[0])

    def further(self, position):
        """The repeated lines."""
        return [(line, (position,)) for line in range(position) if self.lines is None or line in self.lines]

    def __str__(self):
        if self.lines is None:
            return "late all"
        return f"late{_listed(self.lines)}"


class Either(Rule):
    """All that one of several simple rules allows."""

    def __init__(self, *rules):
        if not rules or not all([is_simple(rule) for rule in rules]):
            raise InvalidRule()
        # Kept flat, so that a long chain of | does not make deep calls.
        self.parts = tuple([part for rule in rules for part in _parts(rule)])

    def steps(self, state, length):
        """The list of the steps that are possible in the state."""
        return _ahead(state, length) + self.further(state[0])

    def further(self, position):
        """The further steps of all parts, each step once."""
        found = {}
        for part in self.parts:
            for step in part.further(position):
                found[step] = True
        return list(found)

    def __str__(self):
        return " + ".join([str(part) for part in self.parts])


def is_between(number, least, most):
    """True if this is an integer from least to most."""
    return isinstance(number, int) and least <= number <= most


def are_ascending(numbers, least, most):
    """True if this is a tuple of ascending integers from least to most, without duplicates."""
    if not isinstance(numbers, tuple) or not all([is_between(number, least, most) for number in numbers]):
        return False
    return all([low < high for low, high in zip(numbers, numbers[1:])])


def is_simple(rule):
    """True if this is a rule of one of the six simple classes."""
    return isinstance(rule, Rule) and rule.SIMPLE


def _ahead(state, length):
    """The step that executes the next line, in a list that is empty at the end."""
    position = state[0]
    return [(position, (position + 1,))] if position < length else []


def _listed(numbers):
    return "".join([f" {number}" for number in numbers])


def _parts(rule):
    if isinstance(rule, Either):
        return rule.parts
    return (rule,)
