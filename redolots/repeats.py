"""Late lots, and making a copy log safe by appending own lines once more (points 40 and 41)."""
from redolots.copylog import log_pairs
from redolots.errors import Unsettled
from redolots.images import FREE
from redolots.joins import knots, within_reach


def late_lots(script, blocks):
    """The tuple of the end lots under late lines, found line by line."""
    lines = log_pairs(script, blocks)
    lots = [(block,) for block in range(blocks)]
    for at, (target, source) in enumerate(lines):
        lots[target] = lots[source]
        lots = _taken_in(lots, lines[:at + 1])
    return tuple(lots)


def settled(script, blocks):
    """The tuple of the settled number of each block, FREE for a block that has none."""
    lines = log_pairs(script, blocks)
    lots = late_lots(script, blocks)
    knotted = [block for knot in knots(script, blocks) for block in knot]
    numbers = {}
    for block in _sources_first(script, blocks):
        if block in knotted:
            numbers[block] = _common(lots[block])
        else:
            numbers[block] = _common([numbers[source] for target, source in lines if target == block] or [block])
    return tuple([numbers[block] for block in range(blocks)])


def repeats(script, blocks):
    """A shortest list of line indexes to append so that the log is safe under late lines."""
    numbers = settled(script, blocks)
    if FREE in numbers:
        raise Unsettled(numbers.index(FREE))
    lots = late_lots(script, blocks)
    writes = {target: at for at, (target, _) in enumerate(log_pairs(script, blocks))}
    return [writes[block] for block in _sources_first(script, blocks) if len(lots[block]) > 1]


def _taken_in(lots, executed):
    """The list of the lots when targets have taken in the lots of their sources until nothing changes."""
    grown = list(lots)
    before = []
    while grown != before:
        before = list(grown)
        for target, source in executed:
            grown[target] = tuple(sorted(set(grown[target] + grown[source])))
    return grown


def _sources_first(script, blocks):
    """The list of all blocks, each behind the blocks from which lines copy to it, knots left aside."""
    reach = within_reach(script, blocks)
    # Outside of knots a block does not reach its sources, so it reaches fewer blocks than they do.
    return sorted(range(blocks), key=lambda block: -len(reach[block]))


def _common(numbers):
    """The number if all are equal, otherwise FREE."""
    return numbers[0] if len(set(numbers)) == 1 else FREE
