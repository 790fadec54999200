"""Which first lines of a script are a stage, found while the lines are taken up one by one (point 45)."""
from redolots.errors import TooMany
from redolots.images import EMPTY, look
from redolots.network import MOST_PLACES, Effects
from redolots.rules import FromTop


def stage_lengths(script, image):
    """The list of the numbers of first lines that are a stage from the image, ascending. Raises TooMany."""
    growth = Growth(script, image)
    found = []
    for length in range(1, len(script) + 1):
        growth.take_up()
        if growth.is_stage():
            found.append(length)
    return found


class Growth:
    """The lots under FromTop of the first lines of a script.

    A run of some first lines is a run of more of them, too. So lots and places only become more when
    a line is taken up, and nothing is found anew.
    """

    def __init__(self, script, image):
        self.rule = FromTop()
        self.effects = Effects(script)
        self.taken = 0
        self.reached = 1
        entries = [EMPTY] + sorted({entry for entry in image if entry != EMPTY})
        # By state and look the list of the lots, each as a number whose bits stand for the entries.
        self.held = {self.rule.first_state(): {look(image): [1 << entries.index(entry) for entry in image]}}

    def take_up(self):
        """Takes up the next line."""
        end = (self.taken,)
        grown = {(end, view): True for view in self.held[end]}
        self.taken += 1
        while grown:
            waiting = list(grown)
            grown = {}
            for state, view in waiting:
                for step in self.rule.steps(state, self.taken):
                    seen, origins = self.effects.behind(view, step)
                    if self._takes_in((step[1], seen), self.held[state][view], origins):
                        grown[(step[1], seen)] = True

    def is_stage(self):
        """True if no block has two entries at the ends of runs."""
        ends = list(self.held[(self.taken,)].values())
        joined = ends[0]
        for held in ends:
            joined = [bits | more for bits, more in zip(joined, held)]
        return all([bits & (bits - 1) == 0 for bits in joined])

    def _takes_in(self, place, held, origins):
        """True if the lots at the place grow when they take in those of its origins."""
        state, view = place
        row = self.held.setdefault(state, {})
        if view not in row:
            if self.reached == MOST_PLACES:
                raise TooMany(MOST_PLACES)
            self.reached += 1
            row[view] = [0] * len(view)
        # EMPTY is the first of the entries, and it is all that an empty block has.
        joined = [bits | (1 if block == EMPTY else held[block]) for bits, block in zip(row[view], origins)]
        grows = joined != row[view]
        row[view] = joined
        return grows
