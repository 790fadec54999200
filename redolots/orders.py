"""Orders of the lines of a copy log that are safe under late lines (point 39)."""
from redolots.copylog import log_pairs
from redolots.errors import NotARoot, TwoRoots
from redolots.joins import root_sets


def late_order(script, blocks, roots=None):
    """A tuple of all line indexes in an order that is safe under Late and spreads the roots."""
    lines = log_pairs(script, blocks)
    choices = root_sets(script, blocks)
    for sets in choices:
        if len(sets) > 1:
            raise TwoRoots(sets[0], sets[1])
    if roots is None:
        roots = [sets[0][0] for sets in choices]
    for root, sets in zip(roots, choices):
        if root not in sets[0]:
            raise NotARoot(root)
    # Behind the spreading lines all blocks of a group hold the same number, so the others do no harm.
    first = _spreading(lines, roots)
    return tuple(first + [at for at in range(len(lines)) if at not in first])


def late_outcomes(script, blocks):
    """How many final images safe orders can have."""
    outcomes = 1
    for sets in root_sets(script, blocks):
        outcomes = outcomes * len(sets[0]) if len(sets) == 1 else 0
    return outcomes


def reordered(script, order):
    """The list of the lines in the order of the indexes."""
    return [script[at] for at in order]


def _spreading(lines, roots):
    """The list of lines, each from a reached block to a new one, with which the roots reach all blocks."""
    reached = {root: True for root in roots}
    waiting = list(reached)
    found = []
    while waiting:
        here = waiting.pop()
        for at, (target, source) in enumerate(lines):
            if source == here and target not in reached:
                reached[target] = True
                waiting.append(target)
                found.append(at)
    return found
