"""The shortest copy logs that lead to a goal (point 44)."""
from redolots.copylog import copies
from redolots.cycles import all_rings
from redolots.errors import NoLog
from redolots.goals import changing, check_goal


def closed_rings(goal):
    """The list of the closed rings, ascending; each is a tuple that begins with its least block."""
    check_goal(goal)
    return [ring for ring in all_rings(goal) if all([goal.count(block) == 1 for block in ring])]


def fewest_copies(goal):
    """The number of lines of a shortest copy log to the goal. Raises NoLog."""
    check_has_log(goal)
    return len(changing(goal)) + len(closed_rings(goal))


def least_log(goal):
    """A shortest copy log to the goal. Raises NoLog."""
    check_has_log(goal)
    turned = closed_rings(goal)
    taken = []
    # The spare block is written later, so its own number, which the goal does not want, may be lost.
    for ring in turned:
        taken = taken + _turned(ring, min(_unwanted(goal)))
    in_rings = [block for ring in turned for block in ring]
    taken = taken + _spread(goal, [block for block in changing(goal) if block not in in_rings])
    return copies(*taken)


def check_has_log(goal):
    """Raises InvalidGoal, then NoLog if no copy log leads to the goal."""
    check_goal(goal)
    if changing(goal) and not _unwanted(goal):
        raise NoLog()


def _unwanted(goal):
    """The list of the block numbers that do not occur in the goal."""
    return [block for block in range(len(goal)) if block not in goal]


def _turned(ring, spare):
    """The pairs that bring a closed ring to its goal over a spare block."""
    path = (spare, *ring, spare)
    return list(zip(path, path[1:]))


def _spread(goal, blocks):
    """The pairs that bring these blocks, among which no ring is closed, to the goal."""
    holders = list(range(len(goal)))
    waiting = list(blocks)
    taken = []
    while waiting:
        wanted = [goal[block] for block in waiting]
        # If each of them were the only holder of a number that is wanted, they would be closed rings.
        target = min([block for block in waiting if block not in wanted or holders[block] != block])
        taken.append((target, holders[goal[target]]))
        holders[goal[target]] = target
        waiting.remove(target)
    return taken
