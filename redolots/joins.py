"""How the lines of a copy log join its blocks (point 38)."""
from redolots.copylog import log_pairs


def groups(script, blocks):
    """The list of all groups, ascending tuples of blocks."""
    lines = log_pairs(script, blocks)
    both = lines + [(source, target) for target, source in lines]
    return sorted(set(_reached(both, blocks)))


def within_reach(script, blocks):
    """For each block the ascending tuple of the blocks within its reach."""
    return _reached(log_pairs(script, blocks), blocks)


def knots(script, blocks):
    """The list of all knots, ascending tuples of blocks."""
    return [joined for joined in _mutual_sets(within_reach(script, blocks)) if len(joined) > 1]


def root_sets(script, blocks):
    """For each group the list of its root sets, ascending tuples of blocks."""
    lines = log_pairs(script, blocks)
    roots = [root for root in _mutual_sets(_reached(lines, blocks)) if not _is_entered(root, lines)]
    return [[root for root in roots if root[0] in group] for group in groups(script, blocks)]


def _reached(lines, blocks):
    """For each block the ascending tuple of the blocks to which lines lead from it, with the block."""
    return tuple([_reached_from(lines, block) for block in range(blocks)])


def _reached_from(lines, block):
    found = {block: True}
    waiting = [block]
    while waiting:
        here = waiting.pop()
        for target, source in lines:
            if source == here and target not in found:
                found[target] = True
                waiting.append(target)
    return tuple(sorted(found))


def _mutual_sets(reach):
    """The list of all largest sets of blocks that are within reach of each other."""
    found = [tuple([other for other in reached if block in reach[other]]) for block, reached in enumerate(reach)]
    return sorted(set(found))


def _is_entered(blocks, lines):
    """True if a line copies into the blocks from outside."""
    return any([target in blocks and source not in blocks for target, source in lines])
