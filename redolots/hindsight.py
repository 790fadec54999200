"""A run that fits what was seen (point 55)."""
from redolots.errors import TooMany
from redolots.images import EMPTY
from redolots.network import Network

_MOST_PLACES = 200000


def find_run(script, image, rule, seen):
    """A shortest complete run behind which the seen blocks have the given entries, or None."""
    network = Network(script, image, rule)
    bound = len(network.found)
    for _ in seen:
        bound = bound * len(image)
    if bound > _MOST_PLACES:
        raise TooMany(_MOST_PLACES)
    full = [(block, entry) for block, entry in seen if entry != EMPTY]
    blocks = tuple([block for block, _ in full])
    ends = [(number, blocks) for number in network.end_numbers if _fits(seen, network.found[number])]
    return network.shortest_run(ends, tuple([(entry,) for _, entry in full]))


def _fits(seen, place):
    """True if at the place exactly those of the seen blocks are empty that were seen empty."""
    _, view = place
    return all([(entry == EMPTY) == (view[block] == ".") for block, entry in seen])
