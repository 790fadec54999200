"""The rules that are not simple, and reading a rule from its text (points 14 to 18)."""
from redolots.errors import InvalidRule, InvalidText
from redolots.rules import Either, FromMark, FromPoints, FromTop, Late, Rule, is_between


class Lagging(Rule):
    """A crash restarts the script from a mark that is at most age lines behind the highest position."""

    SIMPLE = False

    def __init__(self, age):
        if not is_between(age, 0, 99):
            raise InvalidRule()
        self.age = age

    def first_state(self):
        """The state at the beginning."""
        return (0, 0)

    def steps(self, state, length):
        """The list of the steps that are possible in the state."""
        position, highest = state
        found = []
        if position < length:
            found.append((position, (position + 1, max(highest, position + 1))))
        for mark in range(max(0, highest - self.age), position):
            found.append((self.RESTART, (mark, highest)))
        return found

    def is_end(self, state, length):
        """True if a run may end in the state."""
        return state[0] == length

    def __str__(self):
        return f"lag {self.age}"


class Workers(Rule):
    """Several workers execute the same script on the same image."""

    SIMPLE = False

    def __init__(self, count):
        if not is_between(count, 1, 3):
            raise InvalidRule()
        self.count = count

    def first_state(self):
        """The state at the beginning."""
        return (0,) * self.count

    def steps(self, state, length):
        """The list of the steps that are possible in the state."""
        held = sorted(set(state))
        ahead = [(position, _moved(state, position, position + 1)) for position in held if position < length]
        back = [(self.RESTART, _moved(state, position, 0)) for position in held if position > 0]
        return ahead + back

    def is_end(self, state, length):
        """True if a run may end in the state."""
        return length in state

    def __str__(self):
        return f"workers {self.count}"


class Machine(Rule):
    """A rule of your own: plain states, and the steps that are told."""

    SIMPLE = False

    def __init__(self, count, edges, ends):
        if not is_between(count, 1, 50) or not isinstance(edges, tuple) or not isinstance(ends, tuple):
            raise InvalidRule()
        if not all([_is_edge(edge, count) for edge in edges]):
            raise InvalidRule()
        if not all([is_between(end, 0, count - 1) for end in ends]):
            raise InvalidRule()
        self.ends = ends
        # Kept by state, so that a state is not searched for among all triples each time.
        self.leads = {}
        for state, line, after in edges:
            self.leads.setdefault(state, []).append((line, (after,)))

    def first_state(self):
        """The state at the beginning."""
        return (0,)

    def steps(self, state, length):
        """The list of the steps that are possible in the state."""
        return [step for step in self.leads.get(state[0], []) if step[0] < length]

    def is_end(self, state, length):
        """True if a run may end in the state."""
        return state[0] in self.ends

    def __str__(self):
        return "machine"


def read_rule(text):
    """The rule whose text this is. Raises InvalidText."""
    try:
        rules = [_read_one(part) for part in text.split(" + ")]
        return rules[0] if len(rules) == 1 else Either(*rules)
    except InvalidRule:
        raise InvalidText(1) from None


def _read_one(text):
    match text:
        case "once":
            return Rule()
        case "top":
            return FromTop()
        case "mark":
            return FromMark()
        case "late all":
            return Late()
    words = text.split(" ")
    return _read_numbered(words[0], tuple([_read_number(word) for word in words[1:]]))


def _read_numbered(word, numbers):
    match word:
        case "points":
            return FromPoints(numbers)
        case "anypoint":
            return FromPoints(numbers, newest=False)
        case "late":
            return Late(numbers)
        case "lag" if len(numbers) == 1:
            return Lagging(numbers[0])
        case "workers" if len(numbers) == 1:
            return Workers(numbers[0])
    raise InvalidText(1)


def _read_number(word):
    # No rule takes a number above 99, so the length alone refuses numbers of any length.
    if len(word) > 2 or not word.isdecimal() or word != str(int(word)):
        raise InvalidText(1)
    return int(word)


def _is_edge(edge, count):
    if not isinstance(edge, tuple) or len(edge) != 3:
        return False
    state, line, after = edge
    return is_between(state, 0, count - 1) and is_between(line, -1, 99) and is_between(after, 0, count - 1)


def _moved(state, position, goal):
    """The state when one worker at the position goes to the goal."""
    at = state.index(position)
    return tuple(sorted(state[:at] + (goal,) + state[at + 1:]))
