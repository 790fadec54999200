"""Lots: which values each block can hold at each place (points 21 to 25)."""
from redolots.errors import UnknownPlace
from redolots.images import EMPTY, FREE
from redolots.network import Network


def reachable(script, image, rule):
    """The list of all reachable places, ascending."""
    network = Network(script, image, rule)
    return sorted(network.found)


def is_safe_under(script, image, rule):
    """True if the script is safe under the rule, from the image."""
    lots = Lots(script, image, rule)
    return lots.is_safe


class Lots:
    """The lots of all blocks at all reachable places."""

    def __init__(self, script, image, rule):
        self.network = Network(script, image, rule)
        self.contents = _contents(self.network)
        self.lasting = [self._lasting(block) for block in range(len(image))]

    def places(self):
        """The list of all reachable places, ascending."""
        return sorted(self.network.found)

    def end_places(self):
        """The list of all end places, ascending."""
        return sorted([self.network.found[number] for number in self.network.end_numbers])

    def lot(self, place, block):
        """The lot of the block at the place, an ascending tuple."""
        if place not in self:
            raise UnknownPlace()
        return self.contents[self.network.numbers[place]][block]

    def end_lot(self, block):
        """The end lot of the block, an ascending tuple."""
        return self.lasting[block]

    @property
    def is_safe(self):
        """True if all complete runs have the same final image."""
        return all([len(entries) < 2 for entries in self.lasting])

    @property
    def final(self):
        """The final image, or None if the script is not safe or no run is complete."""
        if not all([len(entries) == 1 for entries in self.lasting]):
            return None
        return tuple([entries[0] for entries in self.lasting])

    def table(self):
        """The list of the rows (state, look, held) of all reachable places, ascending."""
        rows = []
        for state, view in self.places():
            held = self.contents[self.network.numbers[(state, view)]]
            rows.append((state, view, tuple([_told(entries) for entries in held])))
        return rows

    def run_to(self, place, block, value):
        """A shortest run to the place behind which the block holds the value, or None."""
        if value not in self.lot(place, block):
            return None
        return self.network.shortest_run([(self.network.numbers[place], (block,))], ((value,),))

    def run_to_end(self, block, entries):
        """A shortest complete run behind which the block has one of these entries, or None."""
        ends = []
        for number in self.network.end_numbers:
            if self.contents[number][block]:
                ends.append((number, (block,)))
            elif EMPTY in entries:
                ends.append((number, ()))
        return self.network.shortest_run(ends, (entries,))

    def __len__(self):
        return len(self.network.found)

    def __contains__(self, place):
        return place in self.network.numbers

    def _lasting(self, block):
        """The end lot of the block."""
        entries = {}
        for number in self.network.end_numbers:
            for entry in self.contents[number][block] or (EMPTY,):
                entries[entry] = True
        return tuple(sorted(entries))


def _contents(network):
    """For each place, by its number, the list of the lots of all blocks."""
    worths = sorted({entry for entry in network.image if entry != EMPTY})
    chosen = {}
    found = []
    for held in _spread(network, worths):
        for bits in held:
            if bits not in chosen:
                chosen[bits] = tuple([worth for at, worth in enumerate(worths) if bits >> at & 1])
        found.append([chosen[bits] for bits in held])
    return found


def _spread(network, worths):
    """The smallest lots, each as a number whose bits stand for the worths.

    Steps carry the lots along until no lot grows.
    """
    blocks = len(network.image)
    held = [[0] * blocks for _ in network.found]
    held[0] = [0 if entry == EMPTY else 1 << worths.index(entry) for entry in network.image]
    grown = {0: True}
    while grown:
        waiting = list(grown)
        grown = {}
        for here in waiting:
            for after, origins, _ in network.onward[here]:
                joined = _joined(held[after], held[here], origins)
                if joined != held[after]:
                    held[after] = joined
                    grown[after] = True
    return held


def _joined(known, held, origins):
    """The known lots with the lots that come from the origins."""
    return [bits if block == EMPTY else bits | held[block] for bits, block in zip(known, origins)]


def _told(entries):
    """What a table says of a block with this lot."""
    if not entries:
        return EMPTY
    return entries[0] if len(entries) == 1 else FREE
