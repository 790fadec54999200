"""Which sequences of lines a rule accepts, and whether one rule is within another (point 19)."""
from redolots.errors import TooMany
from redolots.rules import Rule

_MOST_PAIRS = 3000


class StateSets:
    """Sets of states of one rule for one length, and where lines lead from them.

    Each set gets a number when it is first met, because pairs share their sets, and what is
    found out about a set or a state is kept.
    """

    def __init__(self, rule, length):
        self.rule = rule
        self.length = length
        self.known = []
        self.numbers = {}
        self.moves = {}
        self.targets = {}
        self.closed = {}

    def number(self, states):
        """The number of the set, which is an ascending tuple of states."""
        if states not in self.numbers:
            self.numbers[states] = len(self.known)
            self.known.append(states)
        return self.numbers[states]

    def beginning(self):
        """The number of the closure of the first state."""
        return self.number(self._closure([self.rule.first_state()]))

    def has_end(self, number):
        """True if some state of the set is an end."""
        return any([self.rule.is_end(state, self.length) for state in self.known[number]])

    def possible(self, number):
        """The list of the lines with which some state of the set has a step, ascending."""
        return sorted(self._targets_of(number))

    def behind(self, number, line):
        """The number of the closure of the states to which steps with the line lead from the set."""
        key = (number, line)
        if key not in self.closed:
            self.closed[key] = self.number(self._closure(self._targets_of(number).get(line, [])))
        return self.closed[key]

    def _targets_of(self, number):
        """For each line that is possible in the set, the list of the states to which it leads."""
        if number not in self.targets:
            found = {}
            for state in self.known[number]:
                for line, after in self._moves_of(state)[1]:
                    found.setdefault(line, []).append(after)
            self.targets[number] = found
        return self.targets[number]

    def _closure(self, states):
        """The ascending tuple of all states that restarts lead to from these, with these."""
        found = {state: True for state in states}
        waiting = list(found)
        while waiting:
            state = waiting.pop()
            for after in self._moves_of(state)[0]:
                if after not in found:
                    found[after] = True
                    waiting.append(after)
        return tuple(sorted(found))

    def _moves_of(self, state):
        """The tuple of the states to which restarts lead from the state, and the tuple of its other steps."""
        if state not in self.moves:
            steps = self.rule.steps(state, self.length)
            restarts = tuple([step[1] for step in steps if Rule.is_restart(step)])
            self.moves[state] = (restarts, tuple([step for step in steps if not Rule.is_restart(step)]))
        return self.moves[state]


def accepts(rule, length, lines):
    """True if some complete run of the rule executes the sequence."""
    sets = StateSets(rule, length)
    number = sets.beginning()
    for line in lines:
        number = sets.behind(number, line)
    return sets.has_end(number)


def compare(first, second, length):
    """Says whether the first rule is within the second, with all pairs or a sequence that tells them apart."""
    left = StateSets(first, length)
    right = StateSets(second, length)
    came = _all_pairs(left, right)
    # The pairs come breadth first with ascending lines, so the first one found has the least sequence.
    for pair in came:
        if _is_apart(left, right, pair):
            return ("apart", _way(came, pair))
    return ("within", [(left.known[p], right.known[q]) for p, q in came])


def judge_within(first, second, length, pairs):
    """True if the pairs show that the first rule is within the second."""
    left = StateSets(first, length)
    right = StateSets(second, length)
    told = {(left.number(p), right.number(q)): True for p, q in pairs}
    if (left.beginning(), right.beginning()) not in told:
        return False
    for here in told:
        if _is_apart(left, right, here) or not all([pair in told for _, pair in _led(left, right, here)]):
            return False
    return True


def _all_pairs(left, right):
    """All pairs that can be reached, breadth first, each with the pair before it and the line between."""
    beginning = (left.beginning(), right.beginning())
    came = {beginning: None}
    pairs = [beginning]
    done = 0
    while done < len(pairs):
        here = pairs[done]
        done += 1
        for line, pair in _led(left, right, here):
            if pair not in came:
                came[pair] = (here, line)
                pairs.append(pair)
        if len(pairs) > _MOST_PAIRS:
            raise TooMany(_MOST_PAIRS)
    return came


def _way(came, pair):
    """The sequence of lines that leads to the pair."""
    lines = []
    while came[pair] is not None:
        pair, line = came[pair]
        lines.append(line)
    return tuple(lines[::-1])


def _led(left, right, here):
    """For each line that is possible in the pair, ascending, the line and the pair behind it."""
    p, q = here
    return [(line, (left.behind(p, line), right.behind(q, line))) for line in left.possible(p)]


def _is_apart(left, right, here):
    p, q = here
    return left.has_end(p) and not right.has_end(q)
