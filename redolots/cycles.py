"""Rings: blocks that lead to each other in a circle (points 44 and 48)."""
from redolots.images import EMPTY


def followed(leads, block):
    """The tuple of the block and those to which it leads one after another, each once."""
    path = [block]
    while leads[path[-1]] != EMPTY and leads[path[-1]] not in path:
        path.append(leads[path[-1]])
    return tuple(path)


def all_rings(leads):
    """The list of all rings, ascending; each is a tuple that begins with its least block."""
    paths = [followed(leads, block) for block in range(len(leads))]
    return [path for path in paths if len(path) > 1 and leads[path[-1]] == path[0] and path[0] == min(path)]
