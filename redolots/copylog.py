"""Copy logs: scripts of copies with the empty guard (points 29 to 31)."""
from redolots.errors import NotPlain
from redolots.images import home, look
from redolots.lines import check_script
from redolots.plain import flow, images


def copies(*pairs):
    """The copy log with one line for each pair (target, source)."""
    return [("copy", target, source, "") for target, source in pairs]


def pairs(script):
    """The list of the pairs (target, source) of the copy log. Raises NotPlain."""
    found = []
    for at, (op, target, source, guard) in enumerate(script):
        if op != "copy" or guard != "":
            raise NotPlain(at)
        found.append((target, source))
    return found


def log_pairs(script, blocks):
    """The pairs of a copy log for so many blocks. Raises InvalidLine, then NotPlain."""
    check_script(script, home(blocks))
    return pairs(script)


def origins(script, blocks, position=None):
    """For each block the block whose first value it holds at the position, or at the end."""
    log_pairs(script, blocks)
    return images(script, home(blocks))[len(script) if position is None else position]


def matters(script, blocks, position):
    """The ascending tuple of the blocks whose values at the position reach the end."""
    log_pairs(script, blocks)
    return tuple(sorted(set(flow(script[position:], look(home(blocks))))))


def idle_lines(script, blocks):
    """The list of the indexes of all lines that change nothing in the undisturbed run."""
    lines = log_pairs(script, blocks)
    found = images(script, home(blocks))
    return [at for at, (target, source) in enumerate(lines) if found[at][target] == found[at][source]]


def without_idle(script, blocks):
    """The log without its idle lines."""
    idle = idle_lines(script, blocks)
    return [line for at, line in enumerate(script) if at not in idle]
