"""Goals, and the safe copy logs that lead to them (points 42 and 43)."""
from math import comb, factorial

from redolots.copylog import copies
from redolots.errors import InvalidGoal, NoSafeLog

_MOST_BLOCKS = 12


def check_goal(goal):
    """Raises InvalidGoal if this is not a goal."""
    if not isinstance(goal, tuple) or not 1 <= len(goal) <= _MOST_BLOCKS:
        raise InvalidGoal(-1)
    for at, number in enumerate(goal):
        if not isinstance(number, int) or not 0 <= number < len(goal):
            raise InvalidGoal(at)


def homeless(goal):
    """The ascending tuple of the numbers that occur in the goal and are not at home."""
    check_goal(goal)
    return tuple(sorted({number for number in goal if goal[number] != number}))


def safe_log(goal):
    """A shortest copy log to a safe goal. Raises NoSafeLog."""
    missing = homeless(goal)
    if missing:
        raise NoSafeLog(missing[0])
    taken = [(block, goal[block]) for block in changing(goal)]
    return copies(*taken)


def least_logs(goal):
    """Yields each shortest copy log to a safe goal, ordered by the lists of their pairs."""
    # Nothing leads to a goal that is not safe.
    waiting = [] if homeless(goal) else [()]
    while waiting:
        taken = waiting.pop()
        following = _next_pairs(goal, taken)
        if not following:
            yield copies(*taken)
        # The last one that is put here is the next one that is taken up.
        for pair in following[::-1]:
            waiting.append(taken + (pair,))


def count_least_logs(goal):
    """How many shortest copy logs lead to a safe goal."""
    if homeless(goal):
        return 0
    changed = changing(goal)
    logs = factorial(len(changed))
    for number in range(len(goal)):
        logs = logs * factorial(len([block for block in changed if goal[block] == number]))
    return logs


def count_safe_goals(blocks):
    """How many safe goals there are for so many blocks."""
    goals = 0
    for homes in range(1, blocks + 1):
        ways = comb(blocks, homes)
        # Each of the other blocks takes one of the numbers at home.
        for _ in range(blocks - homes):
            ways = ways * homes
        goals = goals + ways
    return goals


def changing(goal):
    """The list of the blocks that change, ascending."""
    return [block for block, number in enumerate(goal) if number != block]


def _next_pairs(goal, taken):
    """The pairs (target, source) that may follow the taken ones in a shortest log, ascending."""
    written = [target for target, _ in taken]
    found = []
    for target in changing(goal):
        if target not in written:
            found = found + [(target, source) for source in range(len(goal))
                             if goal[source] == goal[target] and (source == goal[target] or source in written)]
    return found
